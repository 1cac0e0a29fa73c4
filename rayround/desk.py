"""The desk: it keeps rounds, and heights for them, by names, and answers rows with texts."""

from rayround.dots import dots
from rayround.errors import NoRow, NoText, Unknown
from rayround.heights import ask_height, bends, crossing
from rayround.leastrounds import least_round
from rayround.likeness import likeness
from rayround.numbers import numbers
from rayround.partings import parting
from rayround.rounds import ask_smooth
from rayround.sixteen import kind_of
from rayround.texts import (
    height_text, number_text, ratio_text, read_height, read_number, read_round, round_text, row_text,
)
from rayround.walks import put_in, taken_out, walk

# What stands behind the first word of a row. ROUND and HEIGHT are one word or more, so they stand last.
FORMS = {
    "round": ("NAME", "ROUND"),
    "height": ("NAME", "NAME", "HEIGHT"),
    "least": ("NAME", "NAME"),
    "show": ("NAME",),
    "numbers": ("NAME",),
    "put": ("NAME", "AT"),
    "take": ("NAME", "AT"),
    "walk": ("NAME",),
    "alike": ("NAME", "NAME"),
    "bends": ("NAME", "NAME"),
    "cross": ("NAME", "NAME", "NAME"),
    "dots": ("NAME", "NAME"),
    "part": ("NAME", "NAME"),
    "kind": ("NAME",),
}


def read_name(word):
    """A name: one to eight small letters, else NoRow."""
    if len(word) < 1 or len(word) > 8 or not all([sign in "abcdefghijklmnopqrstuvwxyz" for sign in word]):
        raise NoRow("a name is one to eight small letters")
    return word


def read_place(word):
    """A number from 0 on, as numbers are written, else NoRow."""
    try:
        at = read_number(word)
    except NoText:
        raise NoRow("a place is written as a number") from None
    if at < 0:
        raise NoRow("a place is from 0 on")
    return at


def read_parts(form, words):
    """What the words behind the first one tell, part by part."""
    # A word of no signs (two blanks together, or one at the end) is counted too: the part it falls in refuses it.
    longer = form[-1] in ("ROUND", "HEIGHT")
    if len(words) < len(form) or (len(words) > len(form) and not longer):
        raise NoRow("the row has another number of words")
    parts = []
    for at, kind in enumerate(form):
        if kind == "NAME":
            parts.append(read_name(words[at]))
        elif kind == "AT":
            parts.append(read_place(words[at]))
        elif kind == "ROUND":
            parts.append(read_round(" ".join(words[at:])))
        else:
            parts.append(read_height(" ".join(words[at:])))
    return parts


def kept_round(desk, name):
    """The round of a name, else Unknown."""
    if name not in desk.rounds:
        raise Unknown("the name stands for no round")
    return desk.rounds[name]


def kept_height(desk, name, own):
    """The height that is kept by its own name with the round of a name, else Unknown."""
    if name not in desk.heights or own not in desk.heights[name]:
        raise Unknown("the name stands for no height of the round")
    return desk.heights[name][own]


def keep_round(desk, name, rays):
    """Keep a round by a name, without heights."""
    desk.rounds[name] = rays
    desk.heights[name] = {}
    return "ok"


def say_round(desk, parts):
    """Keep a round."""
    name, rays = parts
    return keep_round(desk, name, rays)


def say_height(desk, parts):
    """Keep a height with a round."""
    name, own, height = parts
    rays = kept_round(desk, name)
    ask_smooth(rays)
    ask_height(rays, height)
    desk.heights[name][own] = height
    return "ok"


def say_least(desk, parts):
    """Keep the least round of a round by another name, or by its own."""
    name, other = parts
    return keep_round(desk, other, least_round(kept_round(desk, name)))


def say_show(desk, parts):
    """The round."""
    return round_text(kept_round(desk, parts[0]))


def say_numbers(desk, parts):
    """The numbers of a round."""
    return row_text(numbers(kept_round(desk, parts[0])))


def say_put(desk, parts):
    """Put a ray into a round."""
    name, at = parts
    return keep_round(desk, name, put_in(kept_round(desk, name), at))


def say_take(desk, parts):
    """Take a ray out of a round."""
    name, at = parts
    return keep_round(desk, name, taken_out(kept_round(desk, name), at))


def say_walk(desk, parts):
    """The walk of a round."""
    places, last = walk(kept_round(desk, parts[0]))
    return f"{row_text(places)} / {round_text(last)}"


def say_alike(desk, parts):
    """Whether two rounds are alike."""
    told = likeness(kept_round(desk, parts[0]), kept_round(desk, parts[1]))
    return "yes" if told[0] == "alike" else "no"


def say_bends(desk, parts):
    """The bends of a height."""
    name, own = parts
    return height_text(bends(kept_round(desk, name), kept_height(desk, name, own)))


def say_cross(desk, parts):
    """The crossing of two heights of a round."""
    name, one, other = parts
    rays = kept_round(desk, name)
    return ratio_text(crossing(rays, kept_height(desk, name, one), kept_height(desk, name, other)))


def say_dots(desk, parts):
    """The dots of a height."""
    name, own = parts
    found = dots(kept_round(desk, name), kept_height(desk, name, own))
    return "-" if found == [] else round_text(found)


def say_part(desk, parts):
    """Both parts of a height, or that there are none."""
    name, own = parts
    told = parting(kept_round(desk, name), kept_height(desk, name, own))
    if told[0] == "none":
        return "none"
    return f"{height_text(told[1])} / {height_text(told[2])}"


def say_kind(desk, parts):
    """Which of the sixteen a round is alike to."""
    return number_text(kind_of(kept_round(desk, parts[0])))


DEEDS = {
    "round": say_round,
    "height": say_height,
    "least": say_least,
    "show": say_show,
    "numbers": say_numbers,
    "put": say_put,
    "take": say_take,
    "walk": say_walk,
    "alike": say_alike,
    "bends": say_bends,
    "cross": say_cross,
    "dots": say_dots,
    "part": say_part,
    "kind": say_kind,
}


class Desk:
    """A desk of its own, with rounds by names and, for each, heights by names."""

    def __init__(self):
        self.rounds = {}
        self.heights = {}

    def say(self, row):
        """The answer to a row; a refused one changes nothing."""
        if not isinstance(row, str):
            raise NoRow("the row is no text")
        words = row.split(" ")
        if words[0] not in FORMS:
            raise NoRow("the row is none that the desk knows")
        parts = read_parts(FORMS[words[0]], words[1:])
        deed = DEEDS[words[0]]
        return deed(self, parts)
