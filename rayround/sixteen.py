"""The ones, rounds of polygons with one dot within: their opposites, and the sixteen up to turnings."""

from rayround.dots import dots
from rayround.errors import NoOne
from rayround.likeness import least_row
from rayround.numbers import numbers, round_by
from rayround.pairs import crossed

# Each is the least row of its one, so that it is found by it. There are no others: of five rays or more a ray of
# number -1 can be taken out, which leaves a one, so each is one of three or four rays with rays put in.
ROWS = (
    (1, 1, 1),
    (-2, 0, 2, 0),
    (-1, 0, 1, 0),
    (0, 0, 0, 0),
    (-2, -1, -1, 1, 0),
    (-1, -1, -1, 0, 0),
    (-2, -2, -1, -2, 1, 0),
    (-2, -1, -2, -1, 0, 0),
    (-2, -1, -1, 0, -1, -1),
    (-1, -1, -1, -1, -1, -1),
    (-2, -2, -1, -2, 0, -1, -1),
    (-2, -1, -2, -1, -1, -1, -1),
    (-2, -2, -2, -1, -2, 0, -2, -1),
    (-2, -2, -1, -2, -1, -1, -2, -1),
    (-2, -1, -2, -1, -2, -1, -2, -1),
    (-2, -2, -1, -2, -2, -1, -2, -2, -1),
)


def ask_one(rays):
    """Refuse a smooth round with a number below -2 with NoOne, and a round that is not smooth with NotSmooth."""
    if min(numbers(rays)) < -2:
        raise NoOne("a one has no number below -2")


def next_dot(dot, others):
    """Of dots all round the one that is met first from a dot on, against the clock."""
    best = None
    for other in others:
        # What crosses the dot above 0 lies less than half a round on, so there crossing tells which comes first.
        if crossed(dot, other) > 0 and (best is None or crossed(other, best) > 0):
            best = other
    return best


def opposite_one(rays):
    """The opposite of a one: the dots of height 1 everywhere but (0, 0), gone round from the first of them on."""
    ask_one(rays)
    others = [dot for dot in dots(rays, [(1, 1) for ray in rays]) if dot != (0, 0)]
    told = [others[0]]
    while len(told) < len(others):
        told.append(next_dot(told[-1], others))
    return told


def sixteen():
    """The sixteen ones, by the number of rays, few first."""
    return [round_by(list(row)) for row in ROWS]


def kind_of(rays):
    """Which of the sixteen a one is alike to, from 0 on."""
    ask_one(rays)
    return ROWS.index(tuple([number for number, mark in least_row(rays)]))
