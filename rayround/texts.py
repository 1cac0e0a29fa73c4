"""Rounds, heights, ratios and rows of numbers as texts, and read from texts."""

from rayround.errors import NoText
from rayround.ratios import is_ratio
from rayround.rounds import is_round


def number_text(number):
    """A whole number as a text; one of more than sixty figures is refused with NoText."""
    if abs(number) >= 10 ** 60:
        raise NoText("a number has at most sixty figures")
    return str(number)


def ratio_text(one):
    """A ratio as a text: its top, and where its bottom is not 1 a / and its bottom."""
    top, bottom = one
    if bottom == 1:
        return number_text(top)
    return f"{number_text(top)}/{number_text(bottom)}"


def round_text(rays):
    """A round as a text: its rays, a blank between, each as its two numbers with a comma between."""
    return " ".join([f"{number_text(x)},{number_text(y)}" for x, y in rays])


def height_text(height):
    """A height as a text: its ratios, a blank between."""
    return " ".join([ratio_text(own) for own in height])


def row_text(numbers):
    """A row of numbers as a text, a blank between; none as -."""
    if numbers == []:
        return "-"
    return " ".join([number_text(number) for number in numbers])


def words_of(text):
    """The words of a text, cut at each blank; a thing that is no text is refused with NoText."""
    if not isinstance(text, str):
        raise NoText("the thing is no text")
    return text.split(" ")


def read_number(word):
    """The whole number that a word tells; NoText where it is not written just so."""
    figures = word[1:] if word.startswith("-") else word
    if len(figures) < 1 or len(figures) > 60 or not all([sign in "0123456789" for sign in figures]):
        raise NoText("a number is written by one to sixty figures")
    if figures[0] == "0" and word != "0":
        raise NoText("a nought ahead stands in 0 alone")
    return int(word)


def read_ratio(word):
    """The ratio that a word tells."""
    parts = [read_number(part) for part in word.split("/")]
    if len(parts) == 1:
        return (parts[0], 1)
    one = tuple(parts)
    if not is_ratio(one) or one[1] == 1:
        raise NoText("a ratio is written in lowest terms, and without a bottom of 1")
    return one


def read_pair(word):
    """The pair that a word tells."""
    parts = [read_number(part) for part in word.split(",")]
    if len(parts) != 2:
        raise NoText("a ray is written as two numbers with a comma between")
    return (parts[0], parts[1])


def read_round(text):
    """The round that a text tells; what is not written just so, or is no round, is refused with NoText."""
    rays = [read_pair(word) for word in words_of(text)]
    if not is_round(rays):
        raise NoText("the rays are no round")
    return rays


def read_height(text):
    """The list of ratios that a text tells; what is not written just so is refused with NoText."""
    return [read_ratio(word) for word in words_of(text)]


def read_row(text):
    """The row of numbers that a text tells, [] of -; what is not written just so is refused with NoText."""
    if text == "-":
        return []
    return [read_number(word) for word in words_of(text)]
