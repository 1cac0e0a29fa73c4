"""Promises 13 and 14: the numbers of smooth rounds, and the rows of numbers that close."""

import itertools
import random
import unittest

from rayround.errors import NoRow, NotSmooth
from rayround.leastrounds import least_round
from rayround.numbers import numbers, round_by, times_round
from rayround.rounds import look_round, unspanned
from made import (
    GROWN, LED, LONG, ROUGH, SMALL_SMOOTH, SMOOTH, THREE, TURNINGS, begun, led_round, slanted, with_one_more,
)


def closes_by_words(row):
    """The pairs of a row, and whether it closes, as the document tells it."""
    pairs = [(1, 0), (0, 1)]
    for number in row:
        (a, b), (x, y) = pairs[-2:]
        pairs.append((-a - number * x, -b - number * y))
    return pairs, pairs[-2:] == [(1, 0), (0, 1)]


def rounds_gone(pairs):
    """How often the direction (1, 0) is met, from pair to pair, each two of which cross in 1."""
    return sum(one == (1, 0) or one[1] < 0 < other[1] for one, other in zip(pairs, pairs[1:]))


def put_into(row, at):
    """The row with -1 put in behind a place, and both neighbours one less: it goes round as often."""
    told = list(row)
    told[at] -= 1
    told[(at + 1) % len(row)] -= 1
    return told[:at + 1] + [-1] + told[at + 1:]


ONCE = [numbers(rays) for rays in SMALL_SMOOTH + GROWN + LED]
TWICE = [[1] * 6, [0] * 8, [-1] * 12, ONCE[3] + ONCE[3], [1, 1, 1, 0, 0, 0, 0], [2, 1, 2, 1, 2, 1]]


def rows_of_several():
    """Rows that close once, twice, three and four times: copies of one behind another, with numbers put in."""
    dice = random.Random("several")
    rows = [(many, row * many) for row in ONCE[::5] for many in (2, 3, 4) if len(row) * many <= 60]
    for many, row in list(rows):
        for _ in range(dice.randint(1, 6)):
            row = put_into(row, dice.randrange(len(row)))
        rows.append((many, row))
    return [(many, row) for many, row in rows if len(row) <= 60 and max(map(abs, row)) <= 60]


SEVERAL = rows_of_several()


class Numbers(unittest.TestCase):
    def test_written_ones(self):
        self.assertEqual(numbers(THREE), [1, 1, 1])
        self.assertEqual(numbers([(1, 0), (0, 1), (-1, 0), (0, -1)]), [0, 0, 0, 0])
        self.assertEqual(numbers(slanted(3)), [0, -3, 0, 3])
        self.assertEqual(numbers(slanted(-200)), [0, 200, 0, -200])
        self.assertEqual(numbers(with_one_more(THREE, 0)), [0, -1, 0, 1])
        self.assertEqual(numbers([(1, 0), (1, 1), (0, 1), (-1, 0), (-1, -1), (0, -1)]), [-1] * 6)

    def test_neighbours_and_so_many_times_the_ray_come_to_nothing(self):
        for rays in SMOOTH + [least_round(rays) for rays in ROUGH]:
            kept = list(rays)
            told = numbers(rays)
            self.assertEqual(rays, kept)
            self.assertIs(type(told), list)
            self.assertEqual(len(told), len(rays))
            for at, (x, y) in enumerate(rays):
                ahead, behind = rays[at - 1], rays[at + 1 - len(rays)]
                self.assertEqual((ahead[0] + behind[0] + told[at] * x, ahead[1] + behind[1] + told[at] * y), (0, 0))
                self.assertIs(type(told[at]), int)
            self.assertEqual(sum(told) + 3 * len(rays), 12)

    def test_begun_elsewhere_and_turned(self):
        for rays in GROWN[::3]:
            told = numbers(rays)
            for at in range(len(rays)):
                self.assertEqual(numbers(begun(rays, at)), begun(told, at))
            for turning in TURNINGS:
                other = led_round(turning, rays)
                self.assertIn(numbers(other), (told, told[::-1]))

    def test_a_round_that_is_not_smooth(self):
        for rays in ROUGH + [[(1, 0), (0, 1), (-1, -2)], [(1, 0), (-1, 2), (0, -1)]]:
            if unspanned(rays) is not None:
                kept = list(rays)
                with self.assertRaises(NotSmooth):
                    numbers(rays)
                self.assertEqual(rays, kept)

    def test_what_is_told_is_the_askers_own(self):
        handed = list(THREE)
        told = numbers(handed)
        told[0] = 17
        self.assertEqual(handed, THREE)
        self.assertEqual(numbers(handed), [1, 1, 1])


class TimesRound(unittest.TestCase):
    def test_written_ones(self):
        self.assertEqual([times_round(row) for row in TWICE], [2, 2, 2, 2, 2, 0])
        self.assertEqual(times_round([1, 1, 1]), 1)
        self.assertEqual(times_round([0, 5, 0, -5]), 1)
        self.assertEqual(times_round([0, 5, 0, 5]), 0)
        self.assertEqual(times_round([1] * 9), 3)
        self.assertEqual(times_round([0] * 16), 4)
        self.assertEqual(times_round([0] * 60), 15)
        self.assertEqual(times_round([1] * 60), 20)
        self.assertEqual(times_round([0, 0]), 0)
        self.assertEqual(times_round([0, 0, 0, 0, 0, 0]), 0)
        self.assertEqual(times_round([1, 1]), 0)
        self.assertIs(type(times_round([0])), int)
        self.assertIs(type(times_round([1, 1, 1])), int)

    def test_half_rounds_do_not_close(self):
        # Behind these the pairs stand turned round, (-1, 0) and (0, -1), or in another order.
        for row in [[0, 0], [0] * 6, [1, 1, 1, 0, 0], [-1, -1, -1], [-1] * 9, [2, 1, 2, 1], [0, 0, 0], [0, 5, 0]]:
            self.assertEqual(times_round(row), 0, row)

    def test_rows_that_close_once(self):
        for row in ONCE + [numbers(rays) for rays in LONG]:
            for at in range(len(row)):
                self.assertEqual(times_round(begun(row, at)), 1)
                self.assertEqual(times_round(begun(row, at)[::-1]), 1)

    def test_rows_that_close_several_times(self):
        self.assertEqual({many for many, row in SEVERAL}, {2, 3, 4})
        for many, row in SEVERAL:
            kept = list(row)
            self.assertEqual(times_round(row), many)
            self.assertEqual(times_round(begun(row, 1)), many)
            self.assertEqual(row, kept)

    def test_all_short_rows(self):
        closing = 0
        for length in range(1, 7):
            for row in itertools.product(range(-3, 4), repeat=length):
                pairs, closes = closes_by_words(row)
                gone = rounds_gone(pairs[:-1]) if closes else 0
                self.assertEqual(times_round(list(row)), gone, row)
                closing += closes
        self.assertGreater(closing, 100)

    def test_a_number_changed_left_out_or_put_in(self):
        for row in ONCE[::4] + [row for many, row in SEVERAL[::6]]:
            for at in range(len(row)):
                for other in [
                    row[:at] + [row[at] + 1] + row[at + 1:], row[:at] + [row[at] - 2] + row[at + 1:],
                    row[:at] + row[at + 1:], row[:at] + [7] + row[at:], row[:at] + [-1] + row[at:],
                ]:
                    pairs, closes = closes_by_words(other)
                    self.assertEqual(times_round(other), rounds_gone(pairs[:-1]) if closes else 0)

    def test_rows_of_one_and_of_sixty_numbers(self):
        dice = random.Random("sixty")
        for number in range(-60, 61):
            self.assertEqual(times_round([number]), 0)
            self.assertEqual(times_round([number] * 60), {0: 15, 1: 20, -1: 10}.get(number, 0))
        for _ in range(40):
            self.assertEqual(times_round([dice.randint(-60, 60) for _ in range(60)]), 0)
        self.assertEqual(times_round([0, 60, 0, -60] * 15), 15)


class RoundBy(unittest.TestCase):
    def test_written_ones(self):
        self.assertEqual(round_by([1, 1, 1]), THREE)
        self.assertEqual(round_by([0, 0, 0, 0]), [(1, 0), (0, 1), (-1, 0), (0, -1)])
        self.assertEqual(round_by([-3, 0, 3, 0]), slanted(3))
        self.assertEqual(round_by([0, -3, 0, 3]), [(1, 0), (0, 1), (-1, 0), (-3, -1)])
        self.assertEqual(round_by([-1, 0, 1, 0]), [(1, 0), (0, 1), (-1, 1), (0, -1)])

    def test_the_round_of_a_row_that_closes_once(self):
        for row in ONCE + [numbers(rays) for rays in LONG]:
            for at in range(len(row)):
                moved = begun(row, at)
                kept = list(moved)
                rays = round_by(moved)
                self.assertEqual(moved, kept)
                self.assertEqual(rays[:2], [(1, 0), (0, 1)])
                self.assertIsNone(look_round(rays))
                self.assertIsNone(unspanned(rays))
                self.assertEqual(numbers(rays), moved[-1:] + moved[:-1])

    def test_others(self):
        lacking = [[number] for number in range(-60, 61)] + [row for many, row in SEVERAL]
        lacking += [[0, 0], [0] * 8, [1] * 6, [0, 5, 0, 5], [-1] * 12, [1, 1, 2], [60] * 60, [-60] * 60, [0] * 60]
        for row in lacking:
            kept = list(row)
            with self.assertRaises(NoRow):
                round_by(row)
            self.assertEqual(row, kept)
        for row in ONCE[::5]:
            for at in range(len(row)):
                with self.assertRaises(NoRow):
                    round_by(row[:at] + [row[at] + 1] + row[at + 1:])

    def test_what_is_told_is_the_askers_own(self):
        handed = [1, 1, 1]
        told = round_by(handed)
        told.append(None)
        handed.append(0)
        self.assertEqual(round_by([1, 1, 1]), THREE)
        self.assertEqual(told, THREE + [None])


if __name__ == "__main__":
    unittest.main()
