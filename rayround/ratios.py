"""Ratios: tuples (top, bottom) in lowest terms, the bottom from 1 on."""

from rayround.errors import NoRatio
from rayround.wholes import greatest_divisor, is_whole


def ratio(top, bottom):
    """The ratio of two whole numbers, the second not 0; else NoRatio."""
    if not is_whole(top) or not is_whole(bottom):
        raise NoRatio("a ratio is made of two whole numbers")
    if bottom == 0:
        raise NoRatio("the bottom of a ratio is not 0")
    part = greatest_divisor(top, bottom)
    if bottom < 0:
        # Divided by a part below 0 the sign goes to the top.
        part = -part
    return (top // part, bottom // part)


def plus(one, other):
    """The sum of two ratios."""
    return ratio(one[0] * other[1] + other[0] * one[1], one[1] * other[1])


def minus(one, other):
    """The first ratio less the second."""
    return ratio(one[0] * other[1] - other[0] * one[1], one[1] * other[1])


def times(one, other):
    """The product of two ratios."""
    return ratio(one[0] * other[0], one[1] * other[1])


def less(one, other):
    """Whether the first ratio is less than the second."""
    # Both bottoms are above 0, so the order stays when they are multiplied away.
    return one[0] * other[1] < other[0] * one[1]


def is_ratio(thing):
    """Whether a thing, any thing, is a ratio."""
    if not isinstance(thing, tuple) or len(thing) != 2 or not is_whole(thing[0]) or not is_whole(thing[1]):
        return False
    return thing[1] >= 1 and greatest_divisor(thing[0], thing[1]) == 1


def greatest(ones):
    """The greatest of a list of ratios, one at least."""
    best = ones[0]
    for one in ones:
        if less(best, one):
            best = one
    return best


def common_bottom(ones):
    """The least whole number from 1 on by which each of the ratios comes to a whole number."""
    bottom = 1
    for one in ones:
        bottom = bottom * (one[1] // greatest_divisor(bottom, one[1]))
    return bottom


def stretched(one, bottom):
    """A ratio as many times as a common bottom tells, a whole number."""
    return one[0] * (bottom // one[1])
