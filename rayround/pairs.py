"""Pairs of whole numbers, the rays among them, and turnings of all pairs."""

from rayround.errors import NoTurning
from rayround.wholes import greatest_divisor, is_whole


def is_pair(thing):
    """Whether a thing, any thing, is a pair."""
    return isinstance(thing, tuple) and len(thing) == 2 and is_whole(thing[0]) and is_whole(thing[1])


def crossed(one, other):
    """What two pairs (a, b) and (c, d) come to when crossed: a d - b c."""
    return one[0] * other[1] - one[1] * other[0]


def product(one, other):
    """A pair times a ray, or times another pair: the first numbers' product and the second ones' together."""
    return one[0] * other[0] + one[1] * other[1]


def common(pair):
    """The greatest whole number that divides both numbers of a pair, 0 of (0, 0)."""
    return greatest_divisor(pair[0], pair[1])


def is_ray(thing):
    """Whether a thing, any thing, is a ray."""
    return is_pair(thing) and common(thing) == 1


def spanned(one, other):
    """Whether two pairs span all dots."""
    return abs(crossed(one, other)) == 1


def is_turning(thing):
    """Whether a thing, any thing, is a turning."""
    if not isinstance(thing, tuple) or len(thing) != 2:
        return False
    return is_pair(thing[0]) and is_pair(thing[1]) and spanned(thing[0], thing[1])


def turned(turning, pair):
    """The pair that a turning leads a pair to."""
    (a, b), (c, d) = turning
    x, y = pair
    return (a * x + b * y, c * x + d * y)


def back(turning):
    """The turning that leads each pair back."""
    (a, b), (c, d) = turning
    # One divided by 1 or by -1 is that same number, so nothing is divided here.
    sign = crossed((a, b), (c, d))
    return ((sign * d, -sign * b), (-sign * c, sign * a))


def beside(first, second):
    """The table that leads (1, 0) to the first pair and (0, 1) to the second."""
    return ((first[0], second[0]), (first[1], second[1]))


def then(one, other):
    """The turning that does what the one and then the other do."""
    first = turned(other, turned(one, (1, 0)))
    second = turned(other, turned(one, (0, 1)))
    return beside(first, second)


def leading(one, other, one_to, other_to):
    """The turning that leads one to one_to and other to other_to; NoTurning where either two do not span."""
    if not spanned(one, other) or not spanned(one_to, other_to):
        raise NoTurning("a turning leads two that span to two that span")
    return then(back(beside(one, other)), beside(one_to, other_to))
