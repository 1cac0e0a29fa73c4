"""Promise 4: ratios in lowest terms, their sums, differences, products and order."""

import copy
import unittest
from fractions import Fraction
from math import gcd, lcm

from rayround.errors import NoRatio
from rayround.ratios import common_bottom, greatest, is_ratio, less, minus, plus, ratio, stretched, times
from things import LARGE, NOT_WHOLE, deep

NEAR = list(range(-12, 13))
SMALL_RATIOS = sorted({ratio(top, bottom) for top in range(-5, 6) for bottom in range(1, 6)})
LARGE_RATIOS = [ratio(top, bottom) for top in LARGE + [0, 1] for bottom in LARGE + [1, 6]]


def value(one):
    return Fraction(one[0], one[1])


class RatioCase(unittest.TestCase):
    def assert_ratio(self, told, asked):
        """What is told is a ratio by its form, and of the value that is asked for."""
        self.assertIs(type(told), tuple)
        self.assertEqual([type(number) for number in told], [int, int])
        top, bottom = told
        self.assertGreaterEqual(bottom, 1)
        self.assertEqual(gcd(top, bottom), 1)
        self.assertEqual(Fraction(top, bottom), asked)


class Made(RatioCase):
    def test_written_ones(self):
        cases = [
            ((1, 2), (1, 2)), ((2, 4), (1, 2)), ((-2, 4), (-1, 2)), ((2, -4), (-1, 2)), ((-2, -4), (1, 2)),
            ((6, 3), (2, 1)), ((6, -3), (-2, 1)), ((7, 1), (7, 1)), ((7, -1), (-7, 1)), ((5, 5), (1, 1)),
            ((-5, 5), (-1, 1)), ((12, 18), (2, 3)), ((1, -1), (-1, 1)),
        ]
        for (top, bottom), asked in cases:
            self.assertEqual(ratio(top, bottom), asked)

    def test_nought_is_nought_over_one(self):
        for bottom in [1, -1, 2, -2, 9, -60] + LARGE:
            self.assertEqual(ratio(0, bottom), (0, 1))
            self.assert_ratio(ratio(0, bottom), 0)

    def test_numbers_near_nought(self):
        for top in NEAR:
            for bottom in NEAR:
                if bottom != 0:
                    self.assert_ratio(ratio(top, bottom), Fraction(top, bottom))

    def test_large_numbers(self):
        for top in LARGE + [1, -1, 6]:
            for bottom in LARGE + [1, -1, 6]:
                self.assert_ratio(ratio(top, bottom), Fraction(top, bottom))
        self.assertEqual(ratio(10 ** 60, -(10 ** 59)), (-10, 1))
        self.assertEqual(ratio(-3 * (10 ** 45 + 1), 6 * (10 ** 45 + 1)), (-1, 2))

    def test_nothing_is_refused_for_its_size(self):
        self.assertEqual(ratio(10 ** 400, 4 * 10 ** 399), (5, 2))
        self.assertEqual(ratio(10 ** 400 + 1, 10 ** 400), (10 ** 400 + 1, 10 ** 400))


class Refused(unittest.TestCase):
    def test_a_bottom_of_nought(self):
        for top in NEAR + LARGE:
            with self.assertRaises(NoRatio):
                ratio(top, 0)

    def test_no_whole_number_on_top(self):
        for thing in NOT_WHOLE + [deep(1, 6), [1] * 2000]:
            for bottom in [1, -1, 2, 0, 10 ** 40]:
                with self.assertRaises(NoRatio, msg=repr(thing)):
                    ratio(thing, bottom)

    def test_no_whole_number_below(self):
        for thing in NOT_WHOLE + [deep(1, 6), [1] * 2000]:
            for top in [0, 1, -1, 2, 10 ** 40]:
                with self.assertRaises(NoRatio, msg=repr(thing)):
                    ratio(top, thing)

    def test_no_whole_number_in_either_place(self):
        for one in NOT_WHOLE:
            for other in NOT_WHOLE:
                with self.assertRaises(NoRatio):
                    ratio(one, other)

    def test_what_is_refused_is_not_changed(self):
        thing = [1, [2, (3,)]]
        kept = copy.deepcopy(thing)
        for top, bottom in [(thing, 1), (1, thing), (thing, thing)]:
            with self.assertRaises(NoRatio):
                ratio(top, bottom)
        self.assertEqual(thing, kept)


class Reckoned(RatioCase):
    def test_written_ones(self):
        self.assertEqual(plus((1, 2), (1, 3)), (5, 6))
        self.assertEqual(plus((1, 6), (1, 3)), (1, 2))
        self.assertEqual(minus((1, 2), (1, 3)), (1, 6))
        self.assertEqual(minus((1, 3), (1, 2)), (-1, 6))
        self.assertEqual(times((2, 3), (3, 4)), (1, 2))
        self.assertEqual(times((-2, 3), (3, 2)), (-1, 1))

    def test_results_that_come_to_nought(self):
        for one in SMALL_RATIOS + LARGE_RATIOS:
            contrary = (-one[0], one[1])
            self.assertEqual(plus(one, contrary), (0, 1))
            self.assertEqual(plus(contrary, one), (0, 1))
            self.assertEqual(minus(one, one), (0, 1))
            self.assertEqual(times(one, (0, 1)), (0, 1))
            self.assertEqual(times((0, 1), one), (0, 1))

    def test_small_ones_in_both_orders(self):
        for one in SMALL_RATIOS:
            for other in SMALL_RATIOS:
                self.check(one, other)

    def test_large_ones_in_both_orders(self):
        some = LARGE_RATIOS[::5] + [(0, 1), (1, 1), (-1, 2)]
        for one in some:
            for other in some:
                self.check(one, other)

    def check(self, one, other):
        self.assert_ratio(plus(one, other), value(one) + value(other))
        self.assert_ratio(minus(one, other), value(one) - value(other))
        self.assert_ratio(times(one, other), value(one) * value(other))
        self.assertIs(less(one, other), value(one) < value(other))


class Less(unittest.TestCase):
    def test_written_ones(self):
        self.assertIs(less((1, 3), (1, 2)), True)
        self.assertIs(less((1, 2), (1, 3)), False)
        self.assertIs(less((-1, 2), (-1, 3)), True)
        self.assertIs(less((-1, 3), (-1, 2)), False)
        self.assertIs(less((-1, 1), (0, 1)), True)
        self.assertIs(less((0, 1), (-1, 1)), False)
        self.assertIs(less((2, 1), (5, 2)), True)

    def test_alike_ones(self):
        for one in SMALL_RATIOS + LARGE_RATIOS:
            self.assertIs(less(one, tuple(list(one))), False)

    def test_close_large_ones(self):
        high = 10 ** 50
        self.assertIs(less((high, high + 1), (high + 1, high + 2)), True)
        self.assertIs(less((high + 1, high + 2), (high, high + 1)), False)


class Several(unittest.TestCase):
    def test_which_things_are_ratios(self):
        for one in SMALL_RATIOS + LARGE_RATIOS:
            self.assertIs(is_ratio(one), True)
            self.assertIs(is_ratio(list(one)), False)
            self.assertIs(is_ratio((2 * one[0], 2 * one[1])), False)
            self.assertIs(is_ratio((-one[0], -one[1])), False)
            self.assertIs(is_ratio(one + (1,)), False)
        for thing in NOT_WHOLE[:-3] + [0, 1, (0, 0), (1, 0), (0, 2), (True, 1), (1, True), (None, 1), (1, "2"), deep((1, 2), 5)]:
            self.assertIs(is_ratio(thing), False)

    def test_the_greatest_and_the_common_bottom(self):
        for many in (1, 2, 3, 10):
            for at in range(len(SMALL_RATIOS) - many):
                ones = SMALL_RATIOS[at:at + many]
                self.assertEqual(value(greatest(ones)), max(map(value, ones)))
                self.assertEqual(greatest(ones[::-1]), greatest(ones))
                bottom = common_bottom(ones)
                self.assertEqual(bottom, lcm(*[one[1] for one in ones]))
                self.assertEqual([stretched(one, bottom) for one in ones], [value(one) * bottom for one in ones])
        self.assertEqual(common_bottom([]), 1)


if __name__ == "__main__":
    unittest.main()
