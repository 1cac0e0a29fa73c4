"""Promises 25 and 26: ones, their opposites, and the sixteen."""

import math
import unittest

from rayround.dots import dots
from rayround.errors import NoOne, NotSmooth
from rayround.likeness import least_row, likeness
from rayround.numbers import numbers
from rayround.rounds import look_round, unspanned
from rayround.sixteen import kind_of, opposite_one, sixteen
from made import GROWN, LONG, NOT_SMOOTH, SMOOTH, THREE, TURNINGS, begun, cross, led_round, slanted, with_one_more

MANY = {3: 1, 4: 3, 5: 2, 6: 4, 7: 2, 8: 3, 9: 1}
FAR_TURNINGS = [((100, 99), (-101, -100)), ((0, 1), (1, 197)), ((10 ** 20, 1), (-1, 0)), ((-1, 0), (10 ** 25, 1))]


def is_one(rays):
    return all(cross(rays[at + 1 - len(rays)], rays[at - 1]) >= -2 for at in range(len(rays)))


def ones_by_rays_put_in():
    """All ones that come of three or four rays by rays put in, one of each least row."""
    found = {}
    waiting = [THREE] + [slanted(s) for s in range(3)]
    while waiting:
        rays = waiting.pop()
        row = tuple(least_row(rays))
        if is_one(rays) and row not in found:
            found[row] = rays
            waiting += [with_one_more(rays, at) for at in range(len(rays))]
    return found


FOUND = ones_by_rays_put_in()
ONES = [
    begun(led_round(turning, rays), at)
    for rays in FOUND.values() for turning in TURNINGS + FAR_TURNINGS for at in (0, 1, len(rays) - 1)
]
NO_ONES = [rays for rays in SMOOTH if not is_one(rays)]


class OneCase(unittest.TestCase):
    def assert_one(self, rays):
        self.assertIs(type(rays), list)
        self.assertIsNone(look_round(rays))
        self.assertIsNone(unspanned(rays))
        self.assertGreaterEqual(min(numbers(rays)), -2)

    def assert_refusals(self, deed):
        self.assertGreater(len(NO_ONES), 20)
        for error, rounds in [(NotSmooth, NOT_SMOOTH), (NoOne, NO_ONES), (NoOne, LONG + [slanted(3), slanted(-200)])]:
            for rays in rounds:
                kept = list(rays)
                with self.assertRaises(error) as caught:
                    deed(rays)
                self.assertIs(type(caught.exception), error)
                self.assertEqual(rays, kept)


class Opposites(OneCase):
    def test_written_ones(self):
        self.assertEqual(opposite_one(slanted(0)), [
            (-1, -1), (0, -1), (1, -1), (1, 0), (1, 1), (0, 1), (-1, 1), (-1, 0),
        ])
        self.assertEqual(opposite_one(THREE), [
            (-1, -1), (0, -1), (1, -1), (2, -1), (1, 0), (0, 1), (-1, 2), (-1, 1), (-1, 0),
        ])
        six = [(1, 0), (1, 1), (0, 1), (-1, 0), (-1, -1), (0, -1)]
        self.assertEqual(opposite_one(six), [(0, -1), (1, -1), (1, 0), (0, 1), (-1, 1), (-1, 0)])
        self.assertEqual(opposite_one(opposite_one(THREE)), [(-1, -1), (1, 0), (0, 1)])

    def test_all_dots_but_the_middle_one_against_the_clock(self):
        self.assertEqual({len(rays) for rays in ONES}, set(range(3, 10)))
        for rays in ONES:
            kept = list(rays)
            told = opposite_one(rays)
            self.assertEqual(rays, kept)
            self.assert_one(told)
            others = [dot for dot in dots(rays, [(1, 1)] * len(rays)) if dot != (0, 0)]
            self.assertEqual(told[0], others[0])
            self.assertEqual(sorted(told), sorted(others))
            self.assertEqual(len(told) + len(rays), 12)

    def test_the_order_by_the_angle(self):
        for rays in FOUND.values():
            told = opposite_one(rays)
            angles = [math.atan2(y, x) for x, y in told]
            turns = [(angle - angles[0]) % (2 * math.pi) for angle in angles]
            self.assertEqual(turns, sorted(turns))

    def test_the_opposite_of_the_opposite(self):
        for rays in ONES:
            again = opposite_one(opposite_one(rays))
            self.assertEqual(likeness(rays, again)[0], "alike")
            # The rays of a one are the dots of its opposite's height, so they come back as they were.
            self.assertEqual(sorted(again), sorted(rays))

    def test_begun_anywhere(self):
        for rays in FOUND.values():
            for at in range(len(rays)):
                self.assertEqual(opposite_one(begun(rays, at)), opposite_one(rays))

    def test_refusals(self):
        self.assert_refusals(opposite_one)

    def test_what_is_told_is_the_askers_own(self):
        handed = list(THREE)
        told = opposite_one(handed)
        kept = list(told)
        told.clear()
        self.assertEqual(handed, THREE)
        told = opposite_one(handed)
        handed.clear()
        self.assertEqual(told, kept)


class Sixteen(OneCase):
    def test_how_many_of_each(self):
        told = sixteen()
        self.assertIs(type(told), list)
        lengths = [len(rays) for rays in told]
        self.assertEqual(lengths, sorted(lengths))
        self.assertEqual({many: lengths.count(many) for many in set(lengths)}, MANY)
        for rays in told:
            self.assert_one(rays)

    def test_no_two_are_alike_and_each_one_is_alike_to_one_of_them(self):
        rows = [tuple(least_row(rays)) for rays in sixteen()]
        self.assertEqual(len(set(rows)), 16)
        self.assertEqual(set(rows), set(FOUND))

    def test_the_same_each_time_and_the_askers_own(self):
        told = sixteen()
        kept = [list(rays) for rays in told]
        told[0].clear()
        told[3].append((5, 6))
        told.reverse()
        self.assertEqual(sixteen(), kept)
        told.clear()
        self.assertEqual(sixteen(), kept)
        self.assertEqual([kind_of(rays) for rays in kept], list(range(16)))

    def test_each_has_its_opposite_among_them(self):
        kinds = [kind_of(opposite_one(rays)) for rays in sixteen()]
        self.assertEqual(sorted(kinds), list(range(16)))
        self.assertEqual([kinds[kind] for kind in kinds], list(range(16)))


class Kinds(OneCase):
    def test_each_of_them_wherever_it_is_led_or_begun(self):
        for kind, rays in enumerate(sixteen()):
            for turning in TURNINGS + FAR_TURNINGS:
                led = led_round(turning, rays)
                for at in range(len(led)):
                    moved = begun(led, at)
                    kept = list(moved)
                    told = kind_of(moved)
                    self.assertIs(type(told), int)
                    self.assertEqual(told, kind)
                    self.assertEqual(moved, kept)

    def test_it_is_alike_to_what_is_told(self):
        all_of_them = sixteen()
        for rays in ONES + [rays for rays in GROWN if is_one(rays)]:
            kind = kind_of(rays)
            for at, other in enumerate(all_of_them):
                self.assertEqual(likeness(rays, other)[0], "alike" if at == kind else "unlike")

    def test_refusals(self):
        self.assert_refusals(kind_of)


if __name__ == "__main__":
    unittest.main()
