"""Promise 20: the dots of heights, and how many the crossings tell."""

import math
import random
import unittest
from fractions import Fraction

from rayround.dots import dots, dots_by_crossing, two_ways
from rayround.errors import NoBend
from rayround.heights import bends, fold
from rayround.numbers import round_by
from rayround.partings import parting
from heighted import (
    BODIED, LED_BODIED, Refused, carried, dots_by_words, heights_for, led_with, outward_heights, slope_of,
    together, told_as, with_more,
)
from made import LONG, THREE, TURNINGS, begun, grown, led_round, slanted

FAR_TURNINGS = [((199, 200), (198, 199)), ((100, 99), (-101, -100)), ((89, 144), (55, 89)), ((0, 1), (1, 197))]
# Rays of so many figures come of rays put in: a row too many for each of their numbers would never end.
FARTHEST_TURNINGS = [
    ((10 ** 20, 10 ** 20 - 1), (10 ** 20 + 1, 10 ** 20)), ((-(10 ** 30), 1), (-1, 0)), ((1, 10 ** 25), (0, -1)),
    ((2 ** 70, 2 ** 70 * 3 ** 40 + 1), (1, 3 ** 40)),
]


class DotCase(Refused):
    def assert_dots(self, told, expected):
        self.assertIs(type(told), list)
        for dot in told:
            self.assertIs(type(dot), tuple)
            self.assertEqual([type(number) for number in dot], [int, int])
        self.assertEqual(told, expected)

    def assert_led(self, turning, rays, height, expected):
        led_rays, led_height = led_with(turning, rays, height)
        self.assert_dots(dots(led_rays, led_height), carried(turning, expected))


class Dots(DotCase):
    def test_written_ones(self):
        self.assertEqual(dots(THREE, [(0, 1)] * 3), [(0, 0)])
        self.assertEqual(dots(THREE, [(0, 1), (0, 1), (2, 1)]), [(0, 0), (1, 0), (2, 0), (0, 1), (1, 1), (0, 2)])
        self.assertEqual(dots(THREE, [(1, 1)] * 3), [
            (-1, -1), (0, -1), (1, -1), (2, -1), (-1, 0), (0, 0), (1, 0), (-1, 1), (0, 1), (-1, 2),
        ])
        self.assertEqual(dots(THREE, [(-1, 1)] * 3), [])
        self.assertEqual(dots(slanted(0), [(0, 1), (-1, 2), (1, 1), (1, 2)]), [])
        self.assertEqual(dots(slanted(0), [(0, 1), (-1, 2), (1, 1), (1, 1)]), [(0, 1), (1, 1)])
        self.assertEqual(dots(slanted(0), [(1, 2), (1, 2), (3, 2), (1, 3)]), [(0, 0), (1, 0)])

    def test_every_pair_of_the_box_is_tried(self):
        looked = 0
        for rays in BODIED + LED_BODIED + [begun(rays, 2) for rays in BODIED[::3]]:
            for height in heights_for(rays, "dots"):
                expected = dots_by_words(rays, height)
                if expected is None:
                    continue
                kept = (list(rays), list(height))
                self.assert_dots(dots(rays, height), expected)
                self.assertEqual((rays, height), kept)
                looked += len(expected) > 1
        self.assertGreater(looked, 100)

    def test_led_by_turnings(self):
        for rays in BODIED:
            for height in heights_for(rays, "led")[:6]:
                expected = dots(rays, height)
                for turning in TURNINGS + FAR_TURNINGS:
                    self.assert_led(turning, rays, height, expected)

    def test_a_slope_of_a_whole_pair_moves_the_dots(self):
        for rays in BODIED + LED_BODIED[::4]:
            for height in heights_for(rays, "moved")[:6]:
                expected = dots(rays, height)
                for x, y in [(0, 0), (1, 0), (-3, 2), (40, 17)]:
                    moved = together(height, slope_of(((x, 1), (y, 1)), rays))
                    self.assert_dots(dots(rays, moved), [(m - x, n - y) for m, n in expected])

    def test_rays_put_in_with_both_heights_together_change_nothing(self):
        dice = random.Random("put in")
        for rays in BODIED[::2]:
            height = heights_for(rays, "put")[1]
            expected = dots(rays, height)
            while len(rays) < 20:
                rays, height = with_more(rays, height, dice.randrange(len(rays)))
                self.assert_dots(dots(rays, height), expected)


class TwoWays(unittest.TestCase):
    def width(self, points, ray):
        given = [x * ray[0] + y * ray[1] for x, y in points]
        return max(given) - min(given)

    def test_the_first_way_is_one_of_least_width(self):
        dice = random.Random("ways")
        rays = [(x, y) for x in range(-30, 31) for y in range(31) if math.gcd(x, y) == 1]
        for high, wide in [(0, 0), (1, 1), (9, 9), (40, 3), (3, 40), (300, 30)]:
            for many in (1, 2, 3, 6):
                points = [(dice.randint(-high, high), dice.randint(-wide, wide)) for _ in range(many)]
                askew = [(x + 7 * y + 1000, 3 * x + 22 * y - 500) for x, y in points]
                for some in (points, askew):
                    narrow, other = two_ways(some)
                    self.assertEqual(narrow[0] * other[1] - narrow[1] * other[0], 1)
                    self.assertLessEqual(self.width(some, narrow), min(self.width(some, ray) for ray in rays))


class FarDots(DotCase):
    """Few dots, in boxes that have far more pairs than can be tried."""

    def test_two_opposite_heights(self):
        for along, low, high, expected in [
            (900, (0, 1), (0, 1), [(x, 0) for x in range(-900, 901)]),
            (4999, (-1, 9999), (9998, 9999), []),
            (4999, (-1, 3), (2, 3), []),
            (400, (1, 2), (1, 1), [(x, y) for y in (0, 1) for x in range(-400, 401)]),
        ]:
            height = [(along, 1), low, (along, 1), high]
            self.assert_dots(dots(slanted(0), height), expected)
            for turning in FAR_TURNINGS + FARTHEST_TURNINGS + TURNINGS:
                self.assert_led(turning, slanted(0), height, expected)

    def test_one_far_away_from_the_other_within_opposite_heights(self):
        height = [(-4990, 1), (0, 1), (5000, 1), (1, 1)]
        expected = [(x, y) for y in (0, 1) for x in range(4990, 5001)]
        for turning in FAR_TURNINGS + FARTHEST_TURNINGS + TURNINGS:
            self.assert_led(turning, slanted(0), height, expected)

    def test_splinters(self):
        # A long slanted side meets an upright one: the dots lie in the two uppermost rows alone.
        for s, low, more in [(200, 30, 4), (200, 0, 9), (37, 5, 30), (200, 45, 199)]:
            height = [(-s * low, 1), (0, 1), (more, 1), (low + 1, 1)]
            expected = [(x, y) for y in (low, low + 1) for x in range(s * low, more + s * y + 1)]
            self.assert_dots(dots(slanted(s), height), expected)
            for turning in FAR_TURNINGS:
                self.assert_led(turning, slanted(s), height, expected)

    def test_strips_with_many_sides(self):
        dice = random.Random("strips")
        looked = 0
        for seed in range(24):
            rays = grown(slanted(0), dice.randint(3, 10), f"strip {seed}")
            height = [told_as(Fraction(dice.randint(-3, 900), dice.choice([1, 1, 2, 3]))) for _ in rays]
            for ray in ((1, 0), (-1, 0)):
                height[rays.index(ray)] = told_as(Fraction(dice.randint(0, 5), 3))
            expected = [
                (x, y) for y in range(-900, 901) for x in (-1, 0, 1)
                if all((x * a + y * b) * bottom >= -top for (a, b), (top, bottom) in zip(rays, height))
            ]
            looked += len(expected) > 0
            self.assert_dots(dots(rays, height), expected)
            for turning in FAR_TURNINGS + FARTHEST_TURNINGS:
                self.assert_led(turning, rays, height, expected)
        self.assertGreater(looked, 12)

    def test_rays_of_many_figures(self):
        tops = [round_by([-60, 0, 60, 0]), round_by([-1, -1, -1, 0, 0])]
        for rays in LONG + tops:
            many = len(rays)
            self.assert_dots(dots(rays, [(0, 1)] * many), [(0, 0)])
            self.assert_dots(dots(rays, [(-1, 9999)] * many), [])
            ones = [(1, 1)] * many
            for dot in dots(rays, ones):
                self.assertTrue(all(dot[0] * x + dot[1] * y >= -1 for x, y in rays))
            for turning in FAR_TURNINGS:
                self.assert_led(turning, rays, ones, dots(rays, ones))
        # Fibonacci's numbers: the round grows by one ray between the two newest ones, again and again.
        rays, height = list(THREE), [(0, 1), (0, 1), (3, 1)]
        expected = dots(rays, height)
        self.assertEqual(len(expected), 10)
        for step in range(56):
            rays, height = with_more(rays, height, step // 2 + step % 2 if step else 0)
            self.assert_dots(dots(rays, height), expected)
        self.assertGreater(max(abs(x) for x, y in rays), 10 ** 10)

    def test_far_folds_of_a_body_that_holds_few(self):
        for turning in FAR_TURNINGS:
            rays, height = led_with(turning, slanted(0), [(1, 1), (-1, 2), (1, 1), (1, 2)])
            for k in (1, 3, 999, 9999):
                self.assert_dots(dots(rays, fold(height, k)), [])
            self.assertEqual(len(dots(rays, fold(height, 400))), 801)

    def test_first_parts_as_they_were_told(self):
        for rays in BODIED + LED_BODIED[::3]:
            for height in heights_for(rays, "told"):
                told = parting(rays, height)
                if told[0] == "parted":
                    for k in (1, 2, 5):
                        self.assertEqual(dots(rays, fold(told[1], k)), dots(rays, fold(height, k)))


class ByCrossing(DotCase):
    def test_written_ones(self):
        self.assertEqual(dots_by_crossing(THREE, [(1, 1)] * 3), 10)
        self.assertEqual(dots_by_crossing(THREE, [(0, 1)] * 3), 1)
        self.assertEqual(dots_by_crossing(slanted(0), [(2, 1), (0, 1), (3, 1), (0, 1)]), 6)
        self.assertEqual(dots_by_crossing(slanted(0), [(10 ** 30, 1)] * 4), (2 * 10 ** 30 + 1) ** 2)

    def test_as_many_as_there_are_at_each_fold(self):
        for rays in BODIED + LED_BODIED:
            for height in outward_heights(rays, "crossing")[0]:
                for k in (0, 1, 2, 3, 6):
                    folded = fold(height, k)
                    kept = (list(rays), list(folded))
                    told = dots_by_crossing(rays, folded)
                    self.assertEqual((rays, folded), kept)
                    self.assertIs(type(told), int)
                    self.assertEqual(told, len(dots(rays, folded)))

    def test_whole_slopes_hold_one_dot(self):
        for rays in BODIED + LONG:
            height = slope_of(((31, 1), (-7, 1)), rays)
            self.assertEqual(dots_by_crossing(rays, height), 1)
            self.assertEqual(dots(rays, height), [(-31, 7)])

    def test_heights_that_are_not_whole(self):
        for rays in BODIED + LED_BODIED[::4]:
            for height in outward_heights(rays, "broken")[1]:
                if any(bottom != 1 for top, bottom in height):
                    self.assert_refused(NoBend, dots_by_crossing, rays, height)
            self.assert_refused(NoBend, dots_by_crossing, rays, slope_of(((1, 2), (0, 1)), rays))
            self.assert_refused(NoBend, dots_by_crossing, rays, slope_of(((0, 1), (1, 9999)), rays))

    def test_heights_that_bend_inwards(self):
        looked = 0
        for rays in BODIED + LED_BODIED[::4]:
            for height in heights_for(rays, "inwards"):
                if any(top < 0 for top, bottom in bends(rays, height)):
                    looked += 1
                    self.assert_refused(NoBend, dots_by_crossing, rays, height)
        self.assertGreater(looked, 100)
        self.assert_refused(NoBend, dots_by_crossing, slanted(1), [(0, 1), (1, 1), (0, 1), (0, 1)])
        self.assert_refused(NoBend, dots_by_crossing, THREE, [(-1, 1)] * 3)


class Refusals(DotCase):
    def test_rounds_and_heights(self):
        self.assert_looks_at_round_and_height(dots)
        self.assert_looks_at_round_and_height(dots_by_crossing)

    def test_what_is_told_is_the_askers_own(self):
        self.assert_own(dots, THREE, [(1, 1)] * 3)
        self.assert_own(dots, THREE, [(-1, 1)] * 3)
        self.assert_own(dots, led_round(TURNINGS[6], BODIED[5]), [(3, 1)] * len(BODIED[5]))


if __name__ == "__main__":
    unittest.main()
