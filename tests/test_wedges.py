"""Promises 9, 10 and 11: the rays between two rays, rows and their fractions, and shows."""

import itertools
import math
import random
import unittest
from fractions import Fraction

from rayround.errors import NoWedge
from rayround.wedges import between, fraction, opposite, row, row_of, shows
from made import FAR, TURNINGS, cross, determinant, far_ray, led

NEAR_RAYS = [ray for ray in itertools.product(range(-5, 6), repeat=2) if math.gcd(*ray) == 1]
NEAR_WEDGES = [(u, v) for u in NEAR_RAYS for v in NEAR_RAYS if cross(u, v) > 0]
NO_WEDGES = [(u, v) for u in NEAR_RAYS for v in NEAR_RAYS if cross(u, v) <= 0]


def far_wedges(many, seed):
    dice = random.Random(seed)
    found = []
    while len(found) < many:
        u, v = far_ray(dice, 200), far_ray(dice, 200)
        if cross(u, v) > 0:
            found.append((u, v))
    return found


FAR_WEDGES = far_wedges(300, "far") + [
    ((200, 199), (-199, 200)), ((200, -199), (200, 199)), ((-200, 1), (1, -200)), ((1, 200), (-200, -1)),
    ((1, 0), (-199, 200)), ((1, 0), (-1, 200)), ((1, 0), (199, 200)), ((1, 0), (1, 200)), ((0, -1), (200, 199)),
]
LONG_WEDGES = [((1, 0), (-1899, 1900)), ((1, 0), (-1, 1901)), ((1, 0), (1, 1901)), ((-1900, 1899), (-1, 0))]
LARGE = 10 ** 59


def wedge_of(numbers):
    """A wedge with this row, as the document tells how each ray between follows from those ahead."""
    ahead, ray = (LARGE, -1), (LARGE * 3 + 1, -3)
    for number in numbers:
        ahead, ray = ray, (number * ray[0] - ahead[0], number * ray[1] - ahead[1])
    return (LARGE, -1), ray


LARGE_WEDGES = [wedge_of([2, 2, 9]), wedge_of([3] * 60), wedge_of([2, 7, 30] * 20), wedge_of([2] * 300 + [5] * 300)]
WEDGES = NEAR_WEDGES + FAR_WEDGES + LONG_WEDGES + LARGE_WEDGES


def some_rows(many, seed):
    dice = random.Random(seed)
    rows = [[dice.randint(2, high) for _ in range(dice.randint(1, 12))] for high in (3, 9, 60) for _ in range(many)]
    return rows + [[2] * at for at in range(1, 9)] + [[at] for at in range(2, 12)] + [[2, 3, 2], [5, 2, 2], [2, 2, 5]]


ROWS = some_rows(40, "rows") + [[2] * 1900, [1901], [2] * 700 + [5] + [2] * 700, [3] * 900, [2, 900, 2], [1000, 900]]


def fraction_by_words(numbers):
    value = Fraction(numbers[-1])
    for number in numbers[-2::-1]:
        value = number - 1 / value
    return (value.numerator, value.denominator)


def columns_of_dots(numbers):
    """The opposite as it is read off dots: one dot fewer a row, begun below the last dot of the row ahead."""
    columns = {}
    left = 0
    for number in numbers:
        for column in range(left, left + number - 1):
            columns[column] = columns.get(column, 0) + 1
        left += number - 2
    return [columns[column] + 1 for column in sorted(columns)]


class Between(unittest.TestCase):
    def test_written_ones(self):
        self.assertEqual(between((1, 0), (-3, 7)), [(0, 1), (-1, 3), (-2, 5)])
        self.assertEqual(row((1, 0), (-3, 7)), [3, 2, 2])
        self.assertEqual(between((1, 0), (3, 7)), [(1, 1), (1, 2)])
        self.assertEqual(row((1, 0), (3, 7)), [2, 4])
        self.assertEqual(between((1, 0), (-1, 2)), [(0, 1)])
        self.assertEqual(row((1, 0), (-1, 2)), [2])
        self.assertEqual(between((1, 1), (-1, 1)), [(0, 1)])

    def test_neighbours_cross_in_one_and_each_is_the_sum_so_many_times(self):
        for u, v in WEDGES:
            rays, numbers = between(u, v), row(u, v)
            self.assertIs(type(rays), list)
            self.assertIs(type(numbers), list)
            self.assertEqual(len(rays), len(numbers))
            whole = [u] + rays + [v]
            self.assertEqual({cross(*two) for two in zip(whole, whole[1:])}, {1})
            for ahead, ray, number, behind in zip(whole, rays, numbers, whole[2:]):
                self.assertEqual((type(ray), type(number)), (tuple, int))
                self.assertGreaterEqual(number, 2)
                self.assertEqual((number * ray[0], number * ray[1]), (ahead[0] + behind[0], ahead[1] + behind[1]))

    def test_none_where_both_cross_in_one(self):
        found = [(u, v) for u, v in WEDGES if cross(u, v) == 1]
        self.assertGreater(len(found), 50)
        for u, v in found + [((10 ** 60, 1), (-1, 0)), ((1, 10 ** 40), (0, 1))]:
            self.assertEqual(between(u, v), [])
            self.assertEqual(row(u, v), [])

    def test_they_are_the_dots_nearest_the_corner(self):
        # The rays between, with u and v, are all dots of the wedge that are no sum of two others of it.
        for u, v in [((1, 0), (-3, 7)), ((2, 1), (-3, 4)), ((1, -3), (2, 5)), ((-1, 2), (-5, -4)), ((3, 1), (1, 4))]:
            near = range(-16, 17)
            dots = [dot for dot in itertools.product(near, near)
                    if dot != (0, 0) and cross(u, dot) >= 0 and cross(dot, v) >= 0]
            sums = {(a[0] + b[0], a[1] + b[1]) for a in dots for b in dots}
            alone = [dot for dot in dots if dot not in sums]
            self.assertEqual(sorted([u, v] + between(u, v)), sorted(alone))

    def test_turnings_lead_them_along(self):
        for u, v in NEAR_WEDGES[::17] + FAR_WEDGES[::11]:
            for turning in TURNINGS:
                one, other = led(turning, [u, v])
                if determinant(turning) == 1:
                    self.assertEqual(between(one, other), led(turning, between(u, v)))
                    self.assertEqual(row(one, other), row(u, v))
                else:
                    self.assertEqual(between(other, one), led(turning, between(u, v))[::-1])
                    self.assertEqual(row(other, one), row(u, v)[::-1])

    def test_no_wedges(self):
        far = [(v, u) for u, v in FAR_WEDGES[:60] + LARGE_WEDGES]
        turned_round = [(u, (-u[0], -u[1])) for u in NEAR_RAYS + [(200, 199), (10 ** 50, 1)]]
        for u, v in NO_WEDGES + far + turned_round + [(u, u) for u in NEAR_RAYS]:
            for deed in (between, row, shows):
                with self.assertRaises(NoWedge):
                    deed(u, v)

    def test_what_is_told_is_the_askers_own(self):
        for deed in (between, row, shows):
            told = deed((1, 0), (-3, 7))
            kept = list(told)
            told[0] = None
            told.append(5)
            self.assertEqual(deed((1, 0), (-3, 7)), kept)
            nothing = deed((1, 0), (0, 1))
            nothing.append(5)
            self.assertEqual(deed((1, 0), (0, 1)), [])


class Fractions(unittest.TestCase):
    def test_written_ones(self):
        self.assertEqual(fraction([3, 2, 2]), (7, 3))
        self.assertEqual(fraction([2, 3]), (5, 3))
        self.assertEqual(fraction([5]), (5, 1))
        self.assertEqual(fraction([2] * 1900), (1901, 1900))
        self.assertEqual(fraction([1901]), (1901, 1))
        self.assertEqual(row_of((7, 3)), [3, 2, 2])
        self.assertEqual(row_of((2, 1)), [2])
        self.assertEqual(row_of((1901, 1900)), [2] * 1900)
        self.assertEqual(row_of((1901, 1)), [1901])

    def test_by_the_words_and_back(self):
        for numbers in ROWS:
            kept = list(numbers)
            told = fraction(numbers)
            self.assertEqual(told, fraction_by_words(numbers))
            self.assertEqual((type(told), type(told[0]), type(told[1])), (tuple, int, int))
            self.assertEqual(row_of(told), numbers)
            self.assertEqual(numbers, kept)

    def test_the_fraction_of_a_wedge(self):
        for u, v in WEDGES:
            rays = between(u, v)
            if rays:
                self.assertEqual(fraction(row(u, v)), (cross(u, v), cross(rays[0], v)))

    def test_rows_of_ratios(self):
        for bottom in range(1, 40):
            for top in range(bottom + 1, 120):
                if math.gcd(top, bottom) == 1:
                    numbers = row_of((top, bottom))
                    self.assertGreaterEqual(min(numbers), 2)
                    self.assertEqual(fraction_by_words(numbers), (top, bottom))

    def test_a_ratio_that_is_not_above_one(self):
        near = [(1, 1), (0, 1), (-1, 1), (1, 2), (-5, 2), (199, 200), (-7, 1)]
        for ratio in near + [(10 ** 59, 10 ** 59 + 1), (-(10 ** 60), 7)]:
            with self.assertRaises(NoWedge):
                row_of(ratio)

    def test_what_is_told_is_the_askers_own(self):
        for deed, thing in [(row_of, (7, 3)), (opposite, [3, 2, 2]), (opposite, [])]:
            kept = list(deed(thing))
            deed(thing).append(9)
            self.assertEqual(deed(thing), kept)
        handed = []
        opposite(handed).append(4)
        self.assertEqual(handed, [])


class Opposites(unittest.TestCase):
    def test_written_ones(self):
        self.assertEqual(opposite([]), [])
        self.assertEqual(opposite([2]), [2])
        self.assertEqual(opposite([3, 2, 2]), [2, 4])
        self.assertEqual(opposite([1901]), [2] * 1900)
        self.assertEqual(opposite([2] * 1900), [1901])
        self.assertEqual(opposite([2, 3]), [3, 2])

    def test_by_the_fraction_by_dots_and_twice(self):
        for numbers in ROWS:
            kept = list(numbers)
            told = opposite(numbers)
            top, bottom = fraction_by_words(numbers)
            self.assertEqual(fraction_by_words(told), (top, top - bottom))
            self.assertEqual(told, columns_of_dots(numbers))
            self.assertEqual(opposite(told), numbers)
            self.assertEqual(numbers, kept)

    def test_the_wedge_of_v_and_u_turned_round(self):
        for u, v in WEDGES:
            self.assertEqual(row(v, (-u[0], -u[1]))[::-1], opposite(row(u, v)))


class Shows(unittest.TestCase):
    def looked(self, u, v):
        rays, told = between(u, v), shows(u, v)
        self.assertIs(type(told), list)
        self.assertEqual(len(told), len(rays))
        step = max(1, len(rays) // 40)
        for (f, g), (x, y) in list(zip(told, rays))[::step]:
            self.assertEqual((type(f), type(g)), (int, int))
            self.assertEqual(f * x + g * y, 1)
            self.assertGreaterEqual(min(f * a + g * b for a, b in [u, v] + rays), 1)

    def test_one_for_each_ray_between(self):
        for u, v in WEDGES:
            self.looked(u, v)

    def test_each_ray_of_a_wedge_with_many(self):
        for u, v in LONG_WEDGES + [((1, 0), (-1500, 1501)), ((200, -199), (-199, 200))]:
            for show, (x, y) in zip(shows(u, v), between(u, v)):
                self.assertIs(type(show), tuple)
                self.assertEqual(show[0] * x + show[1] * y, 1)
        self.assertEqual(max(len(shows(u, v)) for u, v in LONG_WEDGES), 1900)

    def test_none_where_there_is_none_between(self):
        for u, v in [((1, 0), (0, 1)), ((2, 5), (3, 8)), ((0, -1), (1, 200))]:
            self.assertEqual(shows(u, v), [])

    def test_wedges_of_rounds(self):
        for rays in FAR:
            for at, ray in enumerate(rays):
                if len(between(ray, rays[at + 1 - len(rays)])) < 2000:
                    self.looked(ray, rays[at + 1 - len(rays)])


if __name__ == "__main__":
    unittest.main()
