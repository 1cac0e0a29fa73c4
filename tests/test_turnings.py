"""Promise 6: turnings, the turning back, one behind another, and the one that leads two pairs."""

import copy
import itertools
import unittest

from rayround.errors import NoTurning
from rayround.pairs import back, is_turning, leading, then, turned
from things import NO_PAIRS

NEAR = range(-2, 3)
SMALL_PAIRS = list(itertools.product(NEAR, NEAR))
TABLES = list(itertools.product(SMALL_PAIRS, SMALL_PAIRS))
HIGH = 10 ** 9
FAR = 10 ** 59
SAME = ((1, 0), (0, 1))


def determinant(table):
    (a, b), (c, d) = table
    return a * d - b * c


SMALL_TURNINGS = [table for table in TABLES if determinant(table) in (1, -1)]
LARGE_TURNINGS = [
    ((1, HIGH), (0, 1)), ((1, 0), (HIGH + 7, 1)), ((HIGH, HIGH + 1), (HIGH - 1, HIGH)), ((0, 1), (1, -HIGH)),
    ((1, FAR), (0, -1)), ((FAR + 1, FAR), (FAR, FAR - 1)), ((-1, 0), (FAR, -1)), ((FAR, 1), (-1, 0)),
]
SOME_TURNINGS = SMALL_TURNINGS[::9] + LARGE_TURNINGS
SOME_PAIRS = SMALL_PAIRS + [(HIGH, -3), (5, FAR), (-FAR, HIGH + 1), (6, 4)]


class TurningCase(unittest.TestCase):
    def assert_turning(self, thing):
        """A thing is a turning, by what the document says alone."""
        self.assertIs(type(thing), tuple)
        self.assertEqual([type(row) for row in thing], [tuple, tuple])
        self.assertEqual([type(number) for row in thing for number in row], [int] * 4)
        self.assertIn(determinant(thing), (1, -1))


class IsTurning(unittest.TestCase):
    def test_written_ones(self):
        for table in [SAME, ((0, 1), (1, 0)), ((0, -1), (1, 0)), ((1, 0), (0, -1)), ((2, 3), (5, 7)), ((5, 7), (2, 3))]:
            self.assertIs(is_turning(table), True, table)
        for table in [((0, 0), (0, 0)), ((1, 0), (1, 0)), ((2, 0), (0, 1)), ((1, 0), (0, -2)), ((1, 2), (3, 4))]:
            self.assertIs(is_turning(table), False, table)

    def test_all_small_tables(self):
        for table in TABLES:
            self.assertIs(is_turning(table), determinant(table) in (1, -1), table)

    def test_large_tables(self):
        for table in LARGE_TURNINGS:
            self.assertIs(is_turning(table), True)
            (a, b), (c, d) = table
            self.assertIs(is_turning(((2 * a, 2 * b), (c, d))), False)

    def test_lists_in_the_place_of_tuples(self):
        for thing in [[(1, 0), (0, 1)], ([1, 0], (0, 1)), ((1, 0), [0, 1]), ([1, 0], [0, 1]), [[1, 0], [0, 1]]]:
            kept = copy.deepcopy(thing)
            self.assertIs(is_turning(thing), False)
            self.assertEqual(thing, kept)

    def test_rows_of_another_number_or_length(self):
        for thing in [
            (), ((1, 0),), ((1, 0), (0, 1), (1, 1)), ((1, 0), (0, 1), ()), ((1,), (0, 1)), ((1, 0), (1,)),
            ((1, 0, 0), (0, 1)), ((1, 0), (0, 1, 0)), ((1, 0, 0), (0, 1, 0)), ((), ()), (1, 0, 0, 1), (1, 0), (1, 1),
        ]:
            self.assertIs(is_turning(thing), False, thing)

    def test_truths_and_others_within(self):
        for other in [True, False, None, "1", "", [1], (1,), []]:
            for at in range(4):
                flat = [1, 0, 0, 1]
                flat[at] = other
                self.assertIs(is_turning(((flat[0], flat[1]), (flat[2], flat[3]))), False, flat)
        self.assertIs(is_turning(((True, False), (False, True))), False)

    def test_any_thing(self):
        for thing in NO_PAIRS:
            if thing != SAME:
                kept = copy.deepcopy(thing)
                self.assertIs(is_turning(thing), False, repr(thing)[:80])
                self.assertIs(is_turning((thing, (0, 1))), False, repr(thing)[:80])
                self.assertIs(is_turning(((1, 0), thing)), False, repr(thing)[:80])
                self.assertEqual(thing, kept)


class Turned(unittest.TestCase):
    def test_written_ones(self):
        self.assertEqual(turned(((2, 3), (5, 7)), (1, 0)), (2, 5))
        self.assertEqual(turned(((2, 3), (5, 7)), (0, 1)), (3, 7))
        self.assertEqual(turned(((2, 3), (5, 7)), (10, -1)), (17, 43))
        self.assertEqual(turned(((1, HIGH), (0, 1)), (2, 3)), (2 + 3 * HIGH, 3))

    def test_by_the_document(self):
        for turning in SOME_TURNINGS:
            (a, b), (c, d) = turning
            for x, y in SOME_PAIRS:
                told = turned(turning, (x, y))
                self.assertEqual(told, (a * x + b * y, c * x + d * y))
                self.assertIs(type(told), tuple)


class Back(TurningCase):
    def test_written_ones(self):
        self.assertEqual(back(((2, 1), (5, 3))), ((3, -1), (-5, 2)))
        self.assertEqual(back(((2, 3), (5, 7))), ((-7, 3), (5, -2)))
        self.assertEqual(back(((1, HIGH), (0, 1))), ((1, -HIGH), (0, 1)))
        self.assertEqual(back(((1, HIGH), (0, -1))), ((1, HIGH), (0, -1)))

    def test_each_pair_is_led_back(self):
        for turning in SMALL_TURNINGS + LARGE_TURNINGS:
            told = back(turning)
            self.assert_turning(told)
            for pair in SOME_PAIRS:
                self.assertEqual(turned(told, turned(turning, pair)), pair)
                self.assertEqual(turned(turning, turned(told, pair)), pair)


class Then(TurningCase):
    def test_the_first_is_done_first(self):
        shear, swap = ((1, 1), (0, 1)), ((0, 1), (1, 0))
        self.assertEqual(then(shear, swap), ((0, 1), (1, 1)))
        self.assertEqual(then(swap, shear), ((1, 1), (1, 0)))

    def test_it_does_what_both_do(self):
        for one in SOME_TURNINGS:
            for other in SOME_TURNINGS:
                told = then(one, other)
                self.assert_turning(told)
                for pair in [(1, 0), (0, 1), (3, -2), (HIGH, FAR)]:
                    self.assertEqual(turned(told, pair), turned(other, turned(one, pair)))

    def test_behind_the_turning_back_all_stay(self):
        for one in SMALL_TURNINGS + LARGE_TURNINGS:
            self.assertEqual(then(one, back(one)), SAME)
            self.assertEqual(then(back(one), one), SAME)


class Leading(TurningCase):
    def test_written_ones(self):
        self.assertEqual(leading((1, 0), (0, 1), (2, 5), (3, 7)), ((2, 3), (5, 7)))
        self.assertEqual(leading((1, 0), (0, 1), (0, 1), (1, 0)), ((0, 1), (1, 0)))
        self.assertEqual(leading((0, 1), (1, 0), (2, 5), (3, 7)), ((3, 2), (7, 5)))
        self.assertEqual(leading((2, 5), (3, 7), (1, 0), (0, 1)), ((-7, 3), (5, -2)))
        self.assertEqual(leading((1, 0), (HIGH, 1), (1, 0), (0, 1)), ((1, -HIGH), (0, 1)))

    def test_the_first_to_the_first_for_each_of_the_signs(self):
        signs = set()
        for one, other in SOME_TURNINGS:
            for one_to, other_to in SOME_TURNINGS:
                told = leading(one, other, one_to, other_to)
                self.assert_turning(told)
                self.assertEqual(turned(told, one), one_to)
                self.assertEqual(turned(told, other), other_to)
                signs.add((determinant((one, other)), determinant((one_to, other_to))))
        self.assertEqual(signs, {(1, 1), (1, -1), (-1, 1), (-1, -1)})

    def test_where_either_two_do_not_span(self):
        lacking = [
            ((0, 0), (0, 0)), ((1, 0), (0, 0)), ((1, 0), (1, 0)), ((1, 0), (-1, 0)), ((2, 0), (0, 1)),
            ((0, 1), (2, 0)), ((1, 1), (1, -1)), ((1, 2), (3, 4)), ((HIGH, 1), (1, HIGH)), ((2, 1), (-2, 1)),
        ]
        for one, other in lacking:
            for one_to, other_to in [SAME, ((0, 1), (1, 0)), ((2, 5), (3, 7))] + lacking:
                with self.assertRaises(NoTurning):
                    leading(one, other, one_to, other_to)
                with self.assertRaises(NoTurning):
                    leading(one_to, other_to, one, other)


if __name__ == "__main__":
    unittest.main()
