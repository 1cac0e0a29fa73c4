"""Promise 21: the corners of heights that bend nowhere inwards, and the heights of points."""

import random
import unittest
from fractions import Fraction

from rayround.corners import corners, height_of
from rayround.errors import NoBend, NotSmooth
from rayround.heights import bends
from heighted import (
    BODIED, LED_BODIED, Refused, bends_by_words, body_by_words, given, height_by_words, heights_for, outward_heights,
    read, slope_of, some_points, told_points,
)
from made import LONG, NOT_SMOOTH, THREE, begun, slanted


class PointCase(Refused):
    def assert_points(self, told, many):
        self.assertIs(type(told), list)
        self.assertEqual(len(told), many)
        for point in told:
            self.assertIs(type(point), tuple)
            self.assertEqual(len(point), 2)
            for part in point:
                self.assert_ratio(part)


def read_point(point):
    return (read(point[0]), read(point[1]))


class Corners(PointCase):
    def test_written_ones(self):
        self.assertEqual(corners(THREE, [(1, 1)] * 3), [
            ((-1, 1), (-1, 1)), ((2, 1), (-1, 1)), ((-1, 1), (2, 1)),
        ])
        self.assertEqual(corners(THREE, [(1, 2), (1, 3), (-5, 6)]), [((-1, 2), (-1, 3))] * 3)
        self.assertEqual(corners(slanted(0), [(0, 1), (0, 1), (1, 2), (0, 1)]), [
            ((0, 1), (0, 1)), ((1, 2), (0, 1)), ((1, 2), (0, 1)), ((0, 1), (0, 1)),
        ])

    def outward(self):
        for rays in BODIED + LED_BODIED + LONG[:2]:
            whole, broken = outward_heights(rays, "corners", 9)
            for height in whole + broken + [slope_of(((10 ** 40, 3), (-1, 10 ** 30)), rays)]:
                yield rays, height

    def test_what_a_corner_gives_to_its_two_rays(self):
        for rays, height in self.outward():
            kept = (list(rays), list(height))
            told = corners(rays, height)
            self.assertEqual((rays, height), kept)
            self.assert_points(told, len(rays))
            for at, point in enumerate(told):
                m, behind = read_point(point), at + 1 - len(rays)
                self.assertEqual(given(m, rays[at]), -read(height[at]))
                self.assertEqual(given(m, rays[behind]), -read(height[behind]))

    def test_from_corner_to_corner(self):
        for rays, height in self.outward():
            points = [read_point(point) for point in corners(rays, height)]
            for at, bend in enumerate(bends_by_words(rays, height)):
                x, y = rays[at]
                ahead, point = points[at - 1], points[at]
                self.assertEqual(point, (ahead[0] + bend * y, ahead[1] - bend * x))

    def test_they_are_the_corners_of_the_body_and_their_height_is_the_height(self):
        for rays, height in self.outward():
            told = corners(rays, height)
            self.assertEqual(height_of(rays, told), height)
            if len(rays) <= 14:
                self.assertEqual(set(told), set(told_points(body_by_words(rays, height))))

    def test_begun_elsewhere(self):
        for rays in BODIED[::4]:
            height = outward_heights(rays, "moved")[1][0]
            for at in range(len(rays)):
                self.assertEqual(corners(begun(rays, at), begun(height, at)), begun(corners(rays, height), at))

    def test_heights_that_bend_inwards(self):
        looked = 0
        for rays in BODIED + LED_BODIED:
            for height in heights_for(rays, "inwards"):
                if any(top < 0 for top, bottom in bends(rays, height)):
                    looked += 1
                    self.assert_refused(NoBend, corners, rays, height)
                else:
                    self.assertEqual(len(corners(rays, height)), len(rays))
        self.assertGreater(looked, 100)

    def test_a_bend_just_below_nought(self):
        for at, own in [(0, (-1, 10 ** 40)), (2, (-1, 10 ** 40)), (1, (1, 10 ** 40))]:
            height = [(0, 1)] * 4
            height[at] = own
            self.assert_refused(NoBend, corners, slanted(1), height)
        self.assertEqual(len(corners(slanted(1), [(0, 1), (0, 1), (0, 1), (1, 10 ** 40)])), 4)

    def test_refusals(self):
        self.assert_looks_at_round_and_height(corners)

    def test_what_is_told_is_the_askers_own(self):
        self.assert_own(corners, THREE, [(1, 1)] * 3)


class HeightOf(PointCase):
    def test_written_ones(self):
        self.assertEqual(height_of(THREE, [((2, 1), (3, 1))]), [(-2, 1), (-3, 1), (5, 1)])
        self.assertEqual(height_of(THREE, [((0, 1), (0, 1)), ((1, 2), (-1, 3))]), [(0, 1), (1, 3), (1, 6)])

    def test_by_the_words(self):
        dice = random.Random("heights of points")
        for rays in BODIED + LED_BODIED + LONG:
            for high, bottom in [(4, 1), (9, 7), (10 ** 30, 10 ** 29)]:
                points = some_points(dice, high, bottom)
                for handed in [points[:1], points, points * 3, points[::-1]]:
                    told_as_points = told_points(handed)
                    kept = (list(rays), list(told_as_points))
                    told = height_of(rays, told_as_points)
                    self.assertEqual((rays, told_as_points), kept)
                    self.assert_height(told, len(rays))
                    self.assertEqual(told, height_by_words(rays, handed))
                    self.assertTrue(all(bend >= 0 for bend in bends_by_words(rays, told)))

    def test_ratios_compare_by_what_they_are(self):
        points = told_points([(Fraction(1, 3), 0), (Fraction(1, 2), 0), (Fraction(100, 299), 0)])
        self.assertEqual(height_of(slanted(0), points), [(-1, 3), (0, 1), (1, 2), (0, 1)])

    def test_a_round_that_is_not_smooth(self):
        for rays in NOT_SMOOTH:
            self.assert_refused(NotSmooth, height_of, rays, [((0, 1), (0, 1))])
            self.assert_refused(NotSmooth, height_of, rays, told_points([(1, 2), (3, 4)]))

    def test_what_is_told_is_the_askers_own(self):
        self.assert_own(height_of, THREE, [((0, 1), (0, 1)), ((1, 2), (-1, 3))])


if __name__ == "__main__":
    unittest.main()
