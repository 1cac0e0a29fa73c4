"""Promise 22: the bodies of heights and their corners."""

import random
import unittest
from fractions import Fraction

from rayround.bodies import body
from rayround.corners import corners
from heighted import (
    BODIED, LED_BODIED, Refused, body_by_words, broken_height, heights_for, led_with, outward_heights, slope_of,
    together, told_points, with_more,
)
from made import LONG, THREE, TURNINGS, begun, slanted


class Bodies(Refused):
    def assert_body(self, rays, height, expected):
        kept = (list(rays), list(height))
        told = body(rays, height)
        self.assertEqual((rays, height), kept)
        self.assertIs(type(told), list)
        for point in told:
            self.assertIs(type(point), tuple)
            for part in point:
                self.assert_ratio(part)
        self.assertEqual(told, told_points(expected))

    def test_written_ones(self):
        self.assertEqual(body(THREE, [(1, 1)] * 3), [((-1, 1), (-1, 1)), ((-1, 1), (2, 1)), ((2, 1), (-1, 1))])
        self.assertEqual(body(slanted(0), [(1, 2), (0, 1), (1, 3), (1, 1)]), [
            ((-1, 2), (0, 1)), ((-1, 2), (1, 1)), ((1, 3), (0, 1)), ((1, 3), (1, 1)),
        ])

    def test_one_point_alone(self):
        self.assertEqual(body(THREE, [(0, 1)] * 3), [((0, 1), (0, 1))])
        for rays in BODIED + LED_BODIED + LONG:
            for m in [((1, 2), (-3, 7)), ((10 ** 30, 1), (1, 10 ** 30))]:
                height = slope_of(m, rays)
                self.assertEqual(body(rays, height), [((-m[0][0], m[0][1]), (-m[1][0], m[1][1]))])

    def test_a_line(self):
        self.assertEqual(body(slanted(0), [(1, 1), (-1, 3), (2, 1), (1, 3)]), [((-1, 1), (1, 3)), ((2, 1), (1, 3))])
        self.assertEqual(body(slanted(0), [(-1, 3), (1, 1), (1, 3), (2, 1)]), [((1, 3), (-1, 1)), ((1, 3), (2, 1))])

    def test_no_body(self):
        self.assertEqual(body(THREE, [(0, 1), (0, 1), (-1, 1)]), [])
        self.assertEqual(body(slanted(0), [(9, 1), (-1, 3), (9, 1), (333333, 1000000)]), [])
        for rays in BODIED + LED_BODIED + LONG:
            self.assertEqual(body(rays, [(-1, 10 ** 30)] * len(rays)), [])

    def test_in_order_as_ratios_compare_not_as_tuples(self):
        # 1/3 is below 1/2, and -1/2 below -1/3; as tuples (1, 2) comes ahead of (1, 3).
        self.assertEqual(body(slanted(0), [(-1, 3), (-1, 3), (1, 2), (1, 2)]), told_points(
            [(Fraction(1, a), Fraction(1, b)) for a in (3, 2) for b in (3, 2)]))
        self.assertEqual(body(slanted(0), [(1, 2), (1, 2), (-1, 3), (-1, 3)]), told_points(
            [(-Fraction(1, a), -Fraction(1, b)) for a in (2, 3) for b in (2, 3)]))

    def test_by_the_words(self):
        dice = random.Random("bodies")
        kinds = set()
        for rays in BODIED + LED_BODIED:
            heights = heights_for(rays, "bodies") + [broken_height(dice, len(rays), 10 ** 30)]
            lifted = [together(height, [(4, 1)] * len(rays)) for height in heights[:5]]
            for height in heights + lifted:
                expected = body_by_words(rays, height)
                self.assert_body(rays, height, expected)
                kinds.add(min(len(expected), 4))
        self.assertEqual(kinds, {0, 1, 2, 3, 4})

    def test_heights_of_thirty_figures(self):
        dice = random.Random("thirty")
        for rays in BODIED[::2] + LED_BODIED[::3]:
            height = [(dice.randint(-10 ** 28, 10 ** 30), 1) for _ in rays]
            self.assert_body(rays, height, body_by_words(rays, height))

    def test_it_is_that_of_the_corners_where_nothing_bends_inwards(self):
        for rays in BODIED + LED_BODIED + LONG:
            whole, broken = outward_heights(rays, "bodies", 9)
            for height in whole + broken:
                self.assertEqual(sorted(body(rays, height)), sorted(set(corners(rays, height))))

    def test_begun_elsewhere_with_rays_put_in_and_led(self):
        for rays in BODIED[::3]:
            for height in heights_for(rays, "moved")[:5]:
                expected = body(rays, height)
                for at in range(len(rays)):
                    self.assertEqual(body(begun(rays, at), begun(height, at)), expected)
                    more, more_height = with_more(rays, height, at)
                    self.assertEqual(body(more, more_height), expected)
                for turning in TURNINGS:
                    led_rays, led_height = led_with(turning, rays, height)
                    self.assert_body(led_rays, led_height, body_by_words(led_rays, led_height))

    def test_refusals(self):
        self.assert_looks_at_round_and_height(body)

    def test_what_is_told_is_the_askers_own(self):
        self.assert_own(body, THREE, [(1, 1)] * 3)
        self.assert_own(body, THREE, [(-1, 1)] * 3)


if __name__ == "__main__":
    unittest.main()
