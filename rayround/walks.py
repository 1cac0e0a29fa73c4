"""Rays put into smooth rounds and taken out of them, and the walk down to four rays."""

from rayround.errors import NoFour, NoMinus, NoPlace
from rayround.numbers import numbers
from rayround.rounds import ask_smooth, following


def ask_place(rays, at):
    """Refuse a whole number that is no place of the round with NoPlace."""
    if at < 0 or at >= len(rays):
        raise NoPlace(f"a place is from 0 to {len(rays) - 1}")


def put_in(rays, at):
    """The round with the ray at a place and the next one, together, put in behind that place."""
    ask_smooth(rays)
    ask_place(rays, at)
    ray, behind = rays[at], following(rays, at)
    return rays[:at + 1] + [(ray[0] + behind[0], ray[1] + behind[1])] + rays[at + 1:]


def taken_out(rays, at):
    """The round without the ray at a place; NoMinus where its number is not -1, or the rays are three."""
    row = numbers(rays)
    ask_place(rays, at)
    if row[at] != -1 or len(rays) < 4:
        raise NoMinus("a ray of number -1 is taken out, of four rays or more")
    return rays[:at] + rays[at + 1:]


def walk(rays):
    """The places of the rays that are taken out one by one, each time the first one, and the round that is left."""
    places = []
    # Where nothing is taken out, the round that is left is still a new list.
    last = list(rays)
    row = numbers(rays)
    while len(last) >= 5:
        at = row.index(-1)
        places.append(at)
        last = taken_out(last, at)
        row = numbers(last)
    return (places, last)


def slant(rays):
    """The slant of a smooth round of four rays; of another number of rays NoFour."""
    row = numbers(rays)
    if len(rays) != 4:
        raise NoFour("a slant is that of four rays")
    # The numbers are 0, s, 0 and 0 - s, and s is not below 0.
    return max(row)
