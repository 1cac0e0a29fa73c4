"""Promises 18 and 19: heights, their bends and crossings, slopes, plain heights and folds."""

import random
import unittest
from fractions import Fraction

from rayround.errors import NoHeight, NotSmooth
from rayround.heights import bends, crossing, crossings, fold, plain, slope
from rayround.rounds import unspanned
from heighted import (
    HeightCase, bends_by_words, broken_height, read, slope_of, together, told_as, unit, whole_height,
)
from made import EDGE, FAR, GROWN, LED, LONG, ROUGH, SMALL_SMOOTH, THREE, begun, slanted

NOT_SMOOTH = [rays for rays in ROUGH + FAR + EDGE if unspanned(rays) is not None]
HEIGHTED = SMALL_SMOOTH + GROWN + LED[::2] + LONG


def heights_of(rays, seed):
    dice = random.Random(f"{seed} {len(rays)}")
    many = len(rays)
    return [
        whole_height(dice, many), broken_height(dice, many),
        whole_height(dice, many, 9999), broken_height(dice, many, 10 ** 30),
        [(0, 1)] * many, [(1, 1)] * many, [(1, 1)] + [(0, 1)] * (many - 1),
    ]


def crossing_by_words(rays, one, other):
    return sum((read(a) * b for a, b in zip(one, bends_by_words(rays, other))), Fraction(0))


SLOPES = [((0, 1), (0, 1)), ((1, 1), (0, 1)), ((0, 1), (-1, 1)), ((3, 7), (-5, 2)), ((10 ** 40, 3), (1, 10 ** 50))]


class Bends(HeightCase):
    def test_written_ones(self):
        self.assertEqual(bends(THREE, [(1, 1), (1, 1), (1, 1)]), [(3, 1)] * 3)
        self.assertEqual(bends(THREE, [(1, 2), (1, 3), (-5, 6)]), [(0, 1)] * 3)
        self.assertEqual(bends(slanted(3), [(1, 1), (2, 1), (5, 1), (7, 1)]), [(9, 1), (0, 1), (9, 1), (27, 1)])
        self.assertEqual(bends(slanted(0), [(1, 2), (0, 1), (1, 3), (0, 1)]), [(0, 1), (5, 6), (0, 1), (5, 6)])

    def test_by_the_words(self):
        for rays in HEIGHTED:
            for height in heights_of(rays, "bends"):
                kept = (list(rays), list(height))
                told = bends(rays, height)
                self.assertEqual((rays, height), kept)
                self.assert_height(told, len(rays))
                self.assertEqual(told, [told_as(bend) for bend in bends_by_words(rays, height)])

    def test_begun_elsewhere(self):
        for rays in GROWN[::4]:
            height = heights_of(rays, "moved")[1]
            for at in range(len(rays)):
                self.assertEqual(bends(begun(rays, at), begun(height, at)), begun(bends(rays, height), at))


class Crossings(HeightCase):
    def test_written_ones(self):
        ones = [(1, 1)] * 3
        self.assertEqual(crossing(THREE, ones, ones), (9, 1))
        self.assertEqual(crossing(THREE, [(1, 2), (0, 1), (0, 1)], [(0, 1), (1, 3), (0, 1)]), (1, 6))
        self.assertEqual(crossing(slanted(3), unit(4, 3), unit(4, 3)), (3, 1))
        self.assertEqual(crossing(slanted(3), unit(4, 1), unit(4, 1)), (-3, 1))
        self.assertEqual(crossings(THREE), [[1, 1, 1]] * 3)
        self.assertEqual(crossings(slanted(3)), [[0, 1, 0, 1], [1, -3, 1, 0], [0, 1, 0, 1], [1, 0, 1, 3]])

    def test_by_the_words_and_the_other_way_about(self):
        for rays in HEIGHTED:
            heights = heights_of(rays, "crossing")
            for one, other in zip(heights, heights[1:] + heights[:1]):
                kept = (list(rays), list(one), list(other))
                told = crossing(rays, one, other)
                self.assertEqual((rays, one, other), kept)
                self.assert_ratio(told)
                self.assertEqual(told, told_as(crossing_by_words(rays, one, other)))
                self.assertEqual(crossing(rays, other, one), told)
                self.assertEqual(crossing(rays, one, one), told_as(crossing_by_words(rays, one, one)))

    def test_the_rays_among_themselves(self):
        for rays in HEIGHTED:
            kept, many = list(rays), len(rays)
            told = crossings(rays)
            self.assertEqual(rays, kept)
            self.assertIs(type(told), list)
            self.assertEqual(len(told), many)
            for at, line in enumerate(told):
                self.assertIs(type(line), list)
                self.assertEqual([type(number) for number in line], [int] * many)
                self.assertEqual([(number, 1) for number in line], bends(rays, unit(many, at)))
                if many < 12:
                    self.assertEqual([(number, 1) for number in line],
                                     [crossing(rays, unit(many, at), unit(many, k)) for k in range(many)])

    def test_the_height_one_everywhere_crosses_itself_as_twelve_tells(self):
        # Its bends are the numbers and two each: with three times the rays the numbers come to twelve.
        for rays in HEIGHTED:
            ones = [(1, 1)] * len(rays)
            self.assertEqual(crossing(rays, ones, ones), (12 - len(rays), 1))


class Slopes(HeightCase):
    def test_written_ones(self):
        self.assertEqual(slope(THREE, [(0, 1)] * 3, [(2, 1), (3, 1), (-5, 1)]), ((2, 1), (3, 1)))
        self.assertEqual(slope(THREE, [(2, 1), (3, 1), (-5, 1)], [(0, 1)] * 3), ((-2, 1), (-3, 1)))
        self.assertEqual(slope(THREE, [(0, 1)] * 3, [(1, 2), (1, 3), (-5, 6)]), ((1, 2), (1, 3)))
        self.assertIsNone(slope(THREE, [(0, 1)] * 3, [(2, 1), (3, 1), (-4, 1)]))
        self.assertEqual(slope(THREE, [(7, 1)] * 3, [(7, 1)] * 3), ((0, 1), (0, 1)))

    def test_a_slope_has_no_bends_and_crosses_each_height_in_nothing(self):
        for rays in HEIGHTED:
            for m in SLOPES:
                sloped = slope_of(m, rays)
                self.assertEqual(bends(rays, sloped), [(0, 1)] * len(rays))
                for height in heights_of(rays, "slope")[:4]:
                    self.assertEqual(crossing(rays, sloped, height), (0, 1))
                    self.assertEqual(crossing(rays, height, sloped), (0, 1))

    def test_alike_heights(self):
        for rays in HEIGHTED:
            for height in heights_of(rays, "alike"):
                for m in SLOPES:
                    other = together(height, slope_of(m, rays))
                    kept = (list(rays), list(height), list(other))
                    told = slope(rays, height, other)
                    self.assertEqual((rays, height, other), kept)
                    self.assertEqual(told, m)
                    self.assertIs(type(told), tuple)
                    for part in told:
                        self.assert_ratio(part)
                    self.assertEqual(slope(rays, other, height), tuple((-top, bottom) for top, bottom in m))

    def test_unlike_heights(self):
        for rays in HEIGHTED:
            height = heights_of(rays, "unlike")[1]
            for at in range(len(rays)):
                for change in [(1, 1), (-1, 1), (1, 10 ** 40)]:
                    other = together(height, slope_of(SLOPES[3], rays))
                    other[at] = told_as(read(other[at]) + read(change))
                    self.assertIsNone(slope(rays, height, other))


class Plain(HeightCase):
    def test_written_ones(self):
        self.assertEqual(plain(THREE, [(2, 1), (3, 1), (-5, 1)]), [(0, 1)] * 3)
        self.assertEqual(plain(THREE, [(1, 1)] * 3), [(0, 1), (0, 1), (3, 1)])
        self.assertEqual(plain(THREE, [(1, 2), (1, 3), (0, 1)]), [(0, 1), (0, 1), (5, 6)])

    def test_alike_and_nothing_at_the_first_two(self):
        for rays in HEIGHTED:
            for height in heights_of(rays, "plain"):
                kept = (list(rays), list(height))
                told = plain(rays, height)
                self.assertEqual((rays, height), kept)
                self.assert_height(told, len(rays))
                self.assertEqual(told[:2], [(0, 1), (0, 1)])
                m = slope(rays, told, height)
                self.assertEqual(together(told, slope_of(m, rays)), height)
                self.assertEqual(bends(rays, told), bends(rays, height))
                self.assertEqual(plain(rays, told), told)

    def test_alike_heights_have_the_same_plain_one(self):
        for rays in GROWN:
            height = heights_of(rays, "same")[1]
            for m in SLOPES:
                self.assertEqual(plain(rays, together(height, slope_of(m, rays))), plain(rays, height))


class Folds(HeightCase):
    def test_so_many_times(self):
        for rays in HEIGHTED[::5]:
            for height in heights_of(rays, "fold"):
                for k in [0, 1, 2, 6, 30, 10 ** 20]:
                    kept = list(height)
                    told = fold(height, k)
                    self.assertEqual(height, kept)
                    self.assert_height(told, len(height))
                    self.assertEqual(told, [told_as(k * read(ratio)) for ratio in height])

    def test_written_ones(self):
        self.assertEqual(fold([(1, 2), (-3, 4), (5, 1)], 2), [(1, 1), (-3, 2), (10, 1)])
        self.assertEqual(fold([(1, 2), (-3, 4), (5, 1)], 0), [(0, 1)] * 3)
        self.assertEqual(fold([(1, 2), (-3, 4), (5, 1)], 1), [(1, 2), (-3, 4), (5, 1)])


class Refusals(HeightCase):
    def deeds(self, rays, height, fit):
        return [
            lambda: bends(rays, height), lambda: plain(rays, height),
            lambda: crossing(rays, height, height), lambda: crossing(rays, height, fit),
            lambda: crossing(rays, fit, height),
            lambda: slope(rays, height, height), lambda: slope(rays, height, fit), lambda: slope(rays, fit, height),
        ]

    def test_a_height_of_another_length(self):
        for rays in SMALL_SMOOTH[::4] + GROWN[::5] + LONG:
            fit = [(1, 2)] * len(rays)
            for many in {0, 1, 2, len(rays) - 1, len(rays) + 1, 2 * len(rays)} - {len(rays)}:
                height = [(1, 2)] * many
                for deed in self.deeds(rays, height, fit):
                    with self.assertRaises(NoHeight):
                        deed()
                self.assertEqual(height, [(1, 2)] * many)

    def test_a_round_that_is_not_smooth_whatever_the_height(self):
        for rays in NOT_SMOOTH:
            fit = [(1, 2)] * len(rays)
            kept = list(rays)
            for many in [0, 1, len(rays) - 1, len(rays), len(rays) + 1]:
                for deed in self.deeds(rays, [(3, 1)] * many, fit):
                    with self.assertRaises(NotSmooth):
                        deed()
            with self.assertRaises(NotSmooth):
                crossings(rays)
            self.assertEqual(rays, kept)


class OwnLists(unittest.TestCase):
    def test_what_is_told_is_the_askers_own(self):
        for deed in [bends, plain, lambda rays, height: fold(height, 1), lambda rays, height: fold(height, 3)]:
            rays, height = list(THREE), [(1, 2), (1, 3), (0, 1)]
            told = deed(rays, height)
            kept = list(told)
            told.clear()
            self.assertEqual((rays, height), (THREE, [(1, 2), (1, 3), (0, 1)]))
            told = deed(rays, height)
            self.assertEqual(told, kept)
            height.clear()
            rays.clear()
            self.assertEqual(told, kept)

    def test_lists_within_lists(self):
        told = crossings(THREE)
        told[0][0] = 50
        self.assertEqual(told, [[50, 1, 1], [1, 1, 1], [1, 1, 1]])
        told[1].clear()
        self.assertEqual(crossings(THREE), [[1, 1, 1]] * 3)


if __name__ == "__main__":
    unittest.main()
