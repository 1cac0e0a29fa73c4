"""Heights that several tests hand in, and the words about them reckoned with Python's own fractions."""

import math
import random
import unittest
from fractions import Fraction
from itertools import combinations

from rayround.errors import NoHeight, NotSmooth
from made import LONG, NOT_SMOOTH, THREE, TURNINGS, cross, grown, led_round, slanted


def told_as(value):
    return (value.numerator, value.denominator)


def read(ratio):
    return Fraction(ratio[0], ratio[1])


def whole_height(dice, many, high=9):
    return [(dice.randint(-high, high), 1) for _ in range(many)]


def broken_height(dice, many, high=9):
    return [told_as(Fraction(dice.randint(-high, high), dice.randint(1, high))) for _ in range(many)]


def slope_of(m, rays):
    return [told_as(read(m[0]) * x + read(m[1]) * y) for x, y in rays]


def together(one, other):
    return [told_as(read(a) + read(b)) for a, b in zip(one, other)]


def unit(many, at):
    return [(int(k == at), 1) for k in range(many)]


class HeightCase(unittest.TestCase):
    def assert_ratio(self, thing):
        self.assertIs(type(thing), tuple)
        self.assertEqual([type(number) for number in thing], [int, int])
        self.assertEqual(thing, told_as(read(thing)))

    def assert_height(self, thing, many):
        self.assertIs(type(thing), list)
        self.assertEqual(len(thing), many)
        for ratio in thing:
            self.assert_ratio(ratio)


def given(m, ray):
    """m . ray"""
    return m[0] * ray[0] + m[1] * ray[1]


def holds(rays, height, m):
    return all(given(m, ray) >= -own for ray, own in zip(rays, height))


def body_by_words(rays, height):
    """The corners of the body, as fractions: where two lines meet and no ray is given too little."""
    read_height = [read(own) for own in height]
    found = set()
    for i, j in combinations(range(len(rays)), 2):
        (a, b), (c, d) = rays[i], rays[j]
        span = cross(rays[i], rays[j])
        if span:
            p, q = -read_height[i], -read_height[j]
            m = ((p * d - q * b) / span, (a * q - c * p) / span)
            if m not in found and holds(rays, read_height, m):
                found.add(m)
    return sorted(found)


def told_points(points):
    return [(told_as(Fraction(x)), told_as(Fraction(y))) for x, y in points]


def box_of(points):
    """The whole numbers between the least and the greatest first and second ones."""
    return [
        range(math.ceil(min(line)), math.floor(max(line)) + 1)
        for line in ([x for x, y in points], [y for x, y in points])
    ]


def dots_by_words(rays, height, most=20_000):
    """All dots, each pair of the box tried; None where these are too many."""
    points = body_by_words(rays, height)
    if not points:
        return []
    firsts, seconds = box_of(points)
    if len(firsts) * len(seconds) > most:
        return None
    read_height = [read(own) for own in height]
    return [(x, y) for y in seconds for x in firsts if holds(rays, read_height, (x, y))]


def height_by_words(rays, points):
    """The height of points of fractions."""
    return [told_as(Fraction(max(-given(m, ray) for m in points))) for ray in rays]


def carried(turning, pairs):
    """The pairs that give to led rays what the pairs give to the rays, as dots are told."""
    (a, b), (c, d) = turning
    sign = a * d - b * c
    told = [(sign * (d * x - c * y), sign * (a * y - b * x)) for x, y in pairs]
    return sorted(told, key=lambda m: (m[1], m[0]))


def led_with(turning, rays, height):
    """The round where a turning leads a round, and the height that goes with it."""
    return led_round(turning, rays), list(height) if cross(turning[0], turning[1]) == 1 else list(height)[::-1]


def with_more(rays, height, at):
    """A ray put in behind a place, with both neighbours' heights together."""
    ray, behind = rays[at], rays[at + 1 - len(rays)]
    both = told_as(read(height[at]) + read(height[at + 1 - len(rays)]))
    return (
        rays[:at + 1] + [(ray[0] + behind[0], ray[1] + behind[1])] + rays[at + 1:],
        height[:at + 1] + [both] + height[at + 1:],
    )


# Rounds of three to fourteen rays, and some of these where turnings lead them.
BODIED = [grown(THREE, many, f"three {many}") for many in range(12)] + [
    grown(slanted(s), many, f"slanted {s} {many}") for s in (0, 2, -3) for many in (0, 1, 2, 4, 7, 10)
]
LED_BODIED = [led_round(turning, rays) for turning in TURNINGS[1:] for rays in (BODIED[0], BODIED[14], BODIED[6])]


def one_bottom_height(dice, many, high, bottom):
    return [told_as(Fraction(dice.randint(-high * bottom // 3, high * bottom), bottom)) for _ in range(many)]


def heights_for(rays, seed):
    """Heights of whole numbers, of halves and thirds, of one bottom, and ones with hardly a dot, or none."""
    dice = random.Random(f"{seed} {rays}")
    many = len(rays)
    bottom = dice.choice([2, 3, 6, 7, 97, 1000, 9999, 9998])
    return [
        one_bottom_height(dice, many, 6, 1), one_bottom_height(dice, many, 3, 2), one_bottom_height(dice, many, 4, 3),
        one_bottom_height(dice, many, 4, bottom), broken_height(dice, many, 6),
        [(0, 1)] * many, [(1, 1)] * many, [(1, 2)] * many, [(-1, 1)] * many, [(-1, 9999)] * many,
        [(2, 1)] * many, unit(many, dice.randrange(many)),
    ]


def some_points(dice, high, bottom=1):
    """One to five points of fractions, alike ones among them now and then."""
    points = [
        (Fraction(dice.randint(-high, high), dice.randint(1, bottom)),
         Fraction(dice.randint(-high, high), dice.randint(1, bottom)))
        for _ in range(dice.randint(1, 5))
    ]
    return points + points[:dice.randint(0, 1)]


def outward_heights(rays, seed, high=3):
    """Heights that bend nowhere inwards: of whole numbers, and of ratios."""
    dice = random.Random(f"outward {seed} {rays}")
    whole = [height_by_words(rays, some_points(dice, high)) for _ in range(3)]
    broken = [height_by_words(rays, some_points(dice, high, 5)) for _ in range(3)]
    return whole + [[(0, 1)] * len(rays)], broken


def bends_by_words(rays, height):
    told = []
    for at, ray in enumerate(rays):
        number = cross(rays[at + 1 - len(rays)], rays[at - 1])
        told.append(read(height[at - 1]) + read(height[at + 1 - len(rays)]) + number * read(height[at]))
    return told


def crosses_below_nought(table):
    """Whether a table of fractions, alike on both sides, crosses each mixture with itself below 0."""
    rows = [[Fraction(number) for number in line] for line in table]
    for at, line in enumerate(rows):
        if line[at] >= 0:
            return False
        for later in rows[at + 1:]:
            part = later[at] / line[at]
            for k, number in enumerate(line):
                later[k] -= part * number
    return True


def many_heights(rays, seed):
    dice = random.Random(f"{seed} {rays}")
    heights = heights_for(rays, seed)
    lifted = [together(height, [(dice.randint(1, 5), 1)] * len(rays)) for height in heights[:5]]
    return heights + lifted + [broken_height(dice, len(rays), 10 ** 30)]


class Refused(HeightCase):
    def assert_refused(self, error, deed, rays, *more):
        kept = (list(rays), [list(one) if isinstance(one, list) else one for one in more])
        with self.assertRaises(error) as caught:
            deed(rays, *more)
        self.assertIs(type(caught.exception), error)
        self.assertEqual((rays, list(more)), kept)

    def assert_looks_at_round_and_height(self, deed, *more):
        """The round is refused first, whatever the height; then a height of another length."""
        for rays in NOT_SMOOTH:
            for many in (0, 1, len(rays) - 1, len(rays), len(rays) + 1):
                for own in [(3, 1), (-3, 1), (1, 2)]:
                    self.assert_refused(NotSmooth, deed, rays, [own] * many, *more)
        for rays in BODIED[::3] + LONG:
            for many in {0, 1, 2, len(rays) - 1, len(rays) + 1, 2 * len(rays)} - {len(rays)}:
                for own in [(3, 1), (-3, 1), (1, 2)]:
                    self.assert_refused(NoHeight, deed, rays, [own] * many, *more)

    def assert_own(self, deed, rays, height, *more):
        """What is told is the asker's own, lists within it too, and what was handed in stays as it was."""
        kept = (list(rays), list(height))
        handed_rays, handed = list(rays), list(height)
        first = deed(handed_rays, handed, *more)
        words = repr(first)
        for spoilt in ([first] if isinstance(first, list) else [part for part in first if isinstance(part, list)]):
            spoilt.append("spoilt")
            spoilt.reverse()
        self.assertEqual((handed_rays, handed), kept)
        second = deed(handed_rays, handed, *more)
        self.assertEqual(repr(second), words)
        handed_rays.clear()
        handed.clear()
        self.assertEqual(repr(second), words)
        self.assertEqual(repr(deed(list(rays), list(height), *more)), words)
