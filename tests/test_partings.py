"""Promises 23 and 24: heights parted, and the bounds of their dots."""

import unittest
from fractions import Fraction

from rayround.bodies import body
from rayround.corners import height_of
from rayround.dots import dots
from rayround.errors import NoBody
from rayround.heights import bends, crossing, crossings, fold
from rayround.partings import bounds, parting
from heighted import (
    BODIED, LED_BODIED, Refused, bends_by_words, body_by_words, crosses_below_nought, height_by_words, heights_for,
    many_heights, outward_heights, read, slope_of, together, told_as, with_more,
)
from made import LONG, THREE, begun, slanted

ALL = BODIED + LED_BODIED


class PartCase(Refused):
    def assert_parted(self, rays, height, told):
        word, first, stuck = told
        self.assertEqual(word, "parted")
        self.assert_height(first, len(rays))
        self.assert_height(stuck, len(rays))
        self.assertEqual(together(first, stuck), height)
        self.assertTrue(all(bend >= 0 for bend in bends_by_words(rays, first)))
        self.assertTrue(all(read(own) >= 0 for own in stuck))
        at_stuck = [at for at, own in enumerate(stuck) if read(own) > 0]
        self.assertTrue(all(bends_by_words(rays, first)[at] == 0 for at in at_stuck))
        table = crossings(rays)
        self.assertTrue(crosses_below_nought([[table[i][j] for j in at_stuck] for i in at_stuck]))
        if at_stuck:
            self.assertLess(read(crossing(rays, stuck, stuck)), 0)
        return at_stuck

    def assert_none(self, rays, height, told):
        word, weights = told
        self.assertEqual(word, "none")
        self.assertIs(type(weights), list)
        self.assertEqual([type(weight) for weight in weights], [int] * len(rays))
        self.assertGreaterEqual(min(weights), 0)
        self.assertEqual(sum(weight * x for weight, (x, y) in zip(weights, rays)), 0)
        self.assertEqual(sum(weight * y for weight, (x, y) in zip(weights, rays)), 0)
        self.assertLess(sum(weight * read(own) for weight, own in zip(weights, height)), 0)

    def looked(self, rays, height):
        kept = (list(rays), list(height))
        told = parting(rays, height)
        self.assertEqual((rays, height), kept)
        self.assertIs(type(told), tuple)
        if told[0] == "none":
            self.assert_none(rays, height, told)
        else:
            self.assert_parted(rays, height, told)
        return told


class Partings(PartCase):
    def test_written_ones(self):
        noughts = [(0, 1)] * 4
        self.assertEqual(parting(THREE, [(1, 1)] * 3), ("parted", [(1, 1)] * 3, [(0, 1)] * 3))
        self.assertEqual(parting(slanted(1), [(0, 1), (1, 1), (0, 1), (0, 1)]),
                         ("parted", noughts, [(0, 1), (1, 1), (0, 1), (0, 1)]))
        self.assertEqual(parting(slanted(2), [(0, 1), (1, 1), (1, 1), (0, 1)]),
                         ("parted", [(0, 1), (1, 2), (1, 1), (0, 1)], [(0, 1), (1, 2), (0, 1), (0, 1)]))

    def test_the_five_things(self):
        told = {"none": 0, "whole": 0, "stuck": 0, "several": 0}
        for rays in ALL + LONG:
            for height in many_heights(rays, "five"):
                answer = self.looked(rays, height)
                if answer[0] == "none":
                    told["none"] += 1
                else:
                    many = len([own for own in answer[2] if own != (0, 1)])
                    told["several" if many > 2 else "stuck" if many else "whole"] += 1
        self.assertGreater(min(told.values()), 50)

    def test_the_first_part_is_the_corners_height(self):
        for rays in ALL:
            for height in many_heights(rays, "corners"):
                points = body_by_words(rays, height)
                answer = parting(rays, height)
                self.assertEqual(answer[0], "parted" if points else "none")
                if points:
                    self.assertEqual(answer[1], height_by_words(rays, points))
                    self.assertEqual(answer[1], height_of(rays, body(rays, height)))

    def test_a_first_part_is_parted_into_itself_and_noughts(self):
        for rays in ALL + LONG:
            whole, broken = outward_heights(rays, "again", 9)
            told = [parting(rays, height) for height in many_heights(rays, "again")]
            for first in whole + broken + [answer[1] for answer in told if answer[0] == "parted"]:
                self.assertEqual(parting(rays, first), ("parted", first, [(0, 1)] * len(rays)))

    def test_the_same_dots_at_each_fold(self):
        for rays in ALL[::2]:
            for height in heights_for(rays, "folds"):
                answer = parting(rays, height)
                for k in (0, 1, 2, 3, 7):
                    expected = dots(rays, fold(height, k))
                    if answer[0] == "parted":
                        self.assertEqual(dots(rays, fold(answer[1], k)), expected)
                    elif k:
                        self.assertEqual(expected, [])

    def test_a_slope_moves_the_first_part_alone(self):
        for rays in ALL[::2]:
            for height in many_heights(rays, "slope"):
                answer = parting(rays, height)
                for m in [((1, 1), (0, 1)), ((-3, 7), (5, 2)), ((10 ** 30, 1), (1, 10 ** 29))]:
                    moved = self.looked(rays, together(height, slope_of(m, rays)))
                    self.assertEqual(moved[0], answer[0])
                    if answer[0] == "parted":
                        self.assertEqual(moved[1:], (together(answer[1], slope_of(m, rays)), answer[2]))

    def test_a_fold_folds_both_parts(self):
        for rays in ALL[::2]:
            for height in many_heights(rays, "fold"):
                answer = parting(rays, height)
                for k in (2, 6, 10 ** 9):
                    folded = self.looked(rays, fold(height, k))
                    self.assertEqual(folded[0], answer[0])
                    if answer[0] == "parted":
                        self.assertEqual(folded[1:], (fold(answer[1], k), fold(answer[2], k)))
            self.assertEqual(parting(rays, [(0, 1)] * len(rays)),
                             ("parted", [(0, 1)] * len(rays), [(0, 1)] * len(rays)))

    def test_a_ray_put_in(self):
        for rays in ALL[::3]:
            for height in many_heights(rays, "put in")[::2]:
                answer = parting(rays, height)
                for at in range(len(rays)):
                    more, more_height = with_more(rays, height, at)
                    told = self.looked(more, more_height)
                    self.assertEqual(told[0], answer[0])
                    if answer[0] == "parted":
                        self.assertEqual((more, told[1]), with_more(rays, answer[1], at))
                        self.assertEqual((more, told[2]), with_more(rays, answer[2], at))

    def test_something_stuck_on_a_ray_put_in(self):
        for rays in ALL[::3]:
            height = outward_heights(rays, "stuck")[0][0]
            for at in range(len(rays)):
                more, more_height = with_more(rays, height, at)
                for lift in [Fraction(1, 3), Fraction(5), Fraction(10 ** 20)]:
                    lifted = list(more_height)
                    lifted[at + 1] = told_as(read(lifted[at + 1]) + lift)
                    stuck = [(0, 1)] * len(more)
                    stuck[at + 1] = told_as(lift)
                    self.assertEqual(parting(more, lifted), ("parted", more_height, stuck))

    def test_begun_elsewhere(self):
        for rays in BODIED[::3]:
            for height in many_heights(rays, "begun")[::2]:
                answer = parting(rays, height)
                for at in range(len(rays)):
                    told = self.looked(begun(rays, at), begun(height, at))
                    self.assertEqual(told[0], answer[0])
                    if answer[0] == "parted":
                        self.assertEqual(told[1:], (begun(answer[1], at), begun(answer[2], at)))


class NoBodies(PartCase):
    def test_two_opposite_rays_just_below(self):
        for rays in [slanted(0), slanted(3)] + [rays for rays in ALL if len(rays) > 5]:
            places = {ray: at for at, ray in enumerate(rays)}
            for (x, y), at in places.items():
                if (-x, -y) not in places:
                    continue
                # The slope makes nothing easier or harder; all other heights are large.
                height = together([(9999, 1)] * len(rays), slope_of(((1, 3), (2, 5)), rays))
                for lack, word in [(0, "parted"), (Fraction(1, 9999), "none"), (Fraction(1, 10 ** 30), "none")]:
                    height[at] = told_as(Fraction(x, 3) + Fraction(2 * y, 5) + 1)
                    height[places[(-x, -y)]] = told_as(-read(height[at]) - lack)
                    self.assertEqual(self.looked(rays, height)[0], word)

    def test_three_rays_just_below(self):
        for rays in ALL:
            three = [(1, 0), (0, 1), (-1, -1)]
            if not set(three) <= set(rays):
                continue
            for lack, word in [(0, "parted"), (Fraction(1, 9999), "none"), (Fraction(1, 10 ** 30), "none")]:
                height = [(10 ** 6, 1)] * len(rays)
                for ray, own in zip(three, [Fraction(1, 3), Fraction(-5, 7), Fraction(8, 21) - lack]):
                    height[rays.index(ray)] = told_as(own)
                self.assertEqual(self.looked(rays, height)[0], word)

    def test_all_below_nought(self):
        for rays in ALL + LONG:
            for own in [(-1, 1), (-1, 10 ** 30), (-(10 ** 30), 1)]:
                self.assertEqual(self.looked(rays, [own] * len(rays))[0], "none")


class Bounds(PartCase):
    def expected(self, rays, height, k):
        points = body_by_words(rays, height)
        first = height_by_words(rays, points)
        area = sum(read(own) * bend for own, bend in zip(first, bends_by_words(rays, first))) / 2
        wide = max(x for x, y in points) - min(x for x, y in points)
        high = max(y for x, y in points) - min(y for x, y in points)
        about = 1 + k * (wide + high)
        return (told_as(k * k * area - about), told_as(k * k * area + about))

    def test_written_ones(self):
        self.assertEqual(bounds(THREE, [(1, 1)] * 3, 1), ((-5, 2), (23, 2)))
        self.assertEqual(bounds(THREE, [(1, 1)] * 3, 0), ((-1, 1), (1, 1)))
        self.assertEqual(bounds(THREE, [(1, 1)] * 3, 2), ((5, 1), (31, 1)))
        self.assertEqual(bounds(slanted(0), [(1, 2), (0, 1), (1, 3), (1, 1)], 1), ((-2, 1), (11, 3)))

    def test_by_the_words(self):
        for rays in ALL:
            for height in many_heights(rays, "bounds"):
                if not body_by_words(rays, height):
                    continue
                for k in (0, 1, 2, 7, 10 ** 9):
                    kept = (list(rays), list(height))
                    told = bounds(rays, height, k)
                    self.assertEqual((rays, height), kept)
                    self.assertIs(type(told), tuple)
                    for part in told:
                        self.assert_ratio(part)
                    self.assertEqual(told, self.expected(rays, height, k))

    def test_the_dots_of_the_fold_lie_between(self):
        for rays in ALL[::2]:
            for height in heights_for(rays, "between"):
                if not body(rays, height):
                    continue
                for k in (0, 1, 2, 3, 5):
                    low, high = bounds(rays, height, k)
                    many = len(dots(rays, fold(height, k)))
                    self.assertLessEqual(read(low), many)
                    self.assertLessEqual(many, read(high))

    def test_no_body(self):
        for rays in ALL + LONG:
            for k in (0, 1, 5, 10 ** 9):
                self.assert_refused(NoBody, bounds, rays, [(-1, 9999)] * len(rays), k)
        self.assert_refused(NoBody, bounds, slanted(0), [(9, 1), (-1, 3), (9, 1), (333333, 1000000)], 1)


class Refusals(PartCase):
    def test_rounds_and_heights(self):
        self.assert_looks_at_round_and_height(parting)
        self.assert_looks_at_round_and_height(bounds, 1)
        self.assert_looks_at_round_and_height(bounds, 0)

    def test_what_is_told_is_the_askers_own(self):
        self.assert_own(parting, slanted(2), [(0, 1), (1, 1), (1, 1), (0, 1)])
        self.assert_own(parting, THREE, [(1, 1)] * 3)
        self.assert_own(parting, THREE, [(-1, 1)] * 3)
        self.assert_own(bounds, THREE, [(1, 1)] * 3, 3)

    def test_bends_of_what_was_told_may_be_asked(self):
        for rays in LONG:
            answer = parting(rays, [(1, 3)] * len(rays))
            self.assertEqual(len(bends(rays, answer[1])), len(rays))
            self.assertEqual(parting(rays, answer[2])[0], "parted")


if __name__ == "__main__":
    unittest.main()
