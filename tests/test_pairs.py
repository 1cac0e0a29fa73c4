"""Promise 5: pairs crossed, their common part, and which things are rays."""

import copy
import unittest
from math import gcd

from rayround.pairs import common, crossed, is_ray
from things import LARGE, NO_PAIRS

NEAR = range(-4, 5)
SMALL_PAIRS = [(x, y) for x in NEAR for y in NEAR]


class Crossed(unittest.TestCase):
    def test_written_ones(self):
        cases = [
            ((1, 0), (0, 1), 1), ((0, 1), (1, 0), -1), ((2, 3), (5, 7), -1), ((5, 7), (2, 3), 1),
            ((1, 2), (3, 4), -2), ((3, 4), (1, 2), 2), ((-1, 2), (3, -5), -1), ((2, 4), (3, 6), 0),
            ((0, 3), (5, 0), -15),
        ]
        for one, other, asked in cases:
            self.assertEqual(crossed(one, other), asked)

    def test_all_small_ones_in_both_orders(self):
        for one in SMALL_PAIRS:
            for other in SMALL_PAIRS:
                (a, b), (c, d) = one, other
                self.assertEqual(crossed(one, other), a * d - b * c)
                self.assertEqual(crossed(other, one), b * c - a * d)

    def test_alike_ones_and_nought(self):
        for one in SMALL_PAIRS + [(LARGE[0], LARGE[1])]:
            self.assertEqual(crossed(one, tuple(list(one))), 0)
            self.assertEqual(crossed(one, (0, 0)), 0)
            self.assertEqual(crossed((0, 0), one), 0)

    def test_large_ones(self):
        high = 10 ** 59
        self.assertEqual(crossed((high + 1, high), (high, high - 1)), -1)
        self.assertEqual(crossed((high, high - 1), (high + 1, high)), 1)
        self.assertEqual(crossed((high, 1), (-1, high)), 10 ** 118 + 1)


class Common(unittest.TestCase):
    def test_written_ones(self):
        cases = [
            ((0, 0), 0), ((0, 5), 5), ((5, 0), 5), ((0, -5), 5), ((-5, 0), 5), ((6, 4), 2), ((-6, 4), 2),
            ((6, -4), 2), ((-6, -4), 2), ((1, 0), 1), ((-1, 0), 1), ((7, 7), 7), ((8, 12), 4), ((3, 9), 3),
        ]
        for pair, asked in cases:
            self.assertEqual(common(pair), asked, pair)

    def test_all_small_ones(self):
        for x in range(-30, 31):
            for y in range(-30, 31):
                self.assertEqual(common((x, y)), gcd(x, y))

    def test_large_ones(self):
        for x in LARGE + [0, 6]:
            for y in LARGE + [0, 6]:
                self.assertEqual(common((x, y)), gcd(x, y))
        high = 10 ** 40 + 7
        self.assertEqual(common((6 * high, -10 * high)), 2 * high)
        self.assertEqual(common((0, -high)), high)

    def test_a_whole_number_is_told(self):
        for pair in [(0, 0), (1, 0), (-2, 4), (10 ** 45, 10 ** 41)]:
            self.assertIs(type(common(pair)), int)


class IsRay(unittest.TestCase):
    def test_small_pairs(self):
        for pair in SMALL_PAIRS:
            self.assertIs(is_ray(pair), gcd(pair[0], pair[1]) == 1, pair)

    def test_written_ones(self):
        for pair in [(1, 0), (0, 1), (-1, 0), (0, -1), (1, 1), (-3, 2), (200, -199), (10 ** 60, 10 ** 60 + 1)]:
            self.assertIs(is_ray(pair), True, pair)
        for pair in [(0, 0), (2, 0), (0, -2), (2, 2), (-6, 4), (10 ** 60, 10 ** 60 + 2), (200, 150)]:
            self.assertIs(is_ray(pair), False, pair)

    def test_any_thing(self):
        for thing in NO_PAIRS:
            kept = copy.deepcopy(thing)
            self.assertIs(is_ray(thing), False, repr(thing)[:80])
            self.assertEqual(thing, kept)


if __name__ == "__main__":
    unittest.main()
