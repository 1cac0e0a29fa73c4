"""Rounds that are one up to a turning, and the rows that tell them apart."""

from rayround.leastrounds import least_round
from rayround.numbers import numbers
from rayround.pairs import leading
from rayround.rounds import following


def marked_row(rays, least):
    """The numbers of the least round of a round, each with a mark: 1 for a ray of the round itself, else 0."""
    own = {ray: True for ray in rays}
    return [(number, 1 if ray in own else 0) for number, ray in zip(numbers(least), least)]


def first_reading(rays):
    """The least row of a round, and the first two rays of the least round as that row goes through it."""
    least = least_round(rays)
    marked = marked_row(rays, least)
    best = None
    two = None
    for at, ray in enumerate(least):
        onward = marked[at:] + marked[:at]
        backward = onward[:1] + onward[:0:-1]
        for reading, beside in [(onward, following(least, at)), (backward, least[at - 1])]:
            if best is None or reading < best:
                best = reading
                two = (ray, beside)
    return (best, two)


def least_row(rays):
    """The first, as lists compare, of all readings of the marked row, begun anywhere, onward or backward."""
    return first_reading(rays)[0]


def likeness(one, other):
    """("alike", turning) of rounds that a turning leads to one another, else ("unlike", row, other row)."""
    one_row, (ray, beside) = first_reading(one)
    other_row, (ray_to, beside_to) = first_reading(other)
    if one_row != other_row:
        return ("unlike", one_row, other_row)
    # Two rays and the numbers tell all the others, so a turning that leads these two leads all, marks and all.
    return ("alike", leading(ray, beside, ray_to, beside_to))
