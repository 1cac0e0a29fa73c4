"""Whole numbers: which things are some, and what divides two of them."""


def is_whole(thing):
    """Whether a thing, any thing, is a whole number."""
    # Python counts True and False among its ints; here a truth is no number.
    return isinstance(thing, int) and not isinstance(thing, bool)


def greatest_divisor(one, other):
    """The greatest whole number that divides both, 0 of 0 and 0."""
    high, low = abs(one), abs(other)
    while low != 0:
        high, low = low, high % low
    return high
