"""Promise 17: the least rows of rounds, and whether two rounds are alike."""

import unittest

from rayround.leastrounds import least_round
from rayround.likeness import least_row, likeness
from rayround.numbers import numbers
from rayround.pairs import is_turning, turned
from made import (
    FAR, GROWN, LONG, ROUGH, SMALL_SMOOTH, SMOOTH, THREE, TURNINGS, begun, determinant, grown, led, led_round,
    slanted, with_one_more,
)

STEEP = ((10 ** 9 + 1, 10 ** 9), (1, 1))
READ = [rays for rays in ROUGH + FAR if len(least_round(rays)) <= 300]
EIGHT = least_round([(1, 1), (-1, 1), (-1, -1), (1, -1)])


def marked_by_words(rays):
    least = least_round(rays)
    return [(number, int(ray in rays)) for number, ray in zip(numbers(least), least)]


def least_by_words(rays):
    marked = marked_by_words(rays)
    return min(begun(row, at) for row in (marked, marked[::-1]) for at in range(len(marked)))


class LeastRow(unittest.TestCase):
    def test_written_ones(self):
        self.assertEqual(least_row(THREE), [(1, 1)] * 3)
        self.assertEqual(least_row(slanted(3)), [(-3, 1), (0, 1), (3, 1), (0, 1)])
        self.assertEqual(least_row(slanted(-3)), [(-3, 1), (0, 1), (3, 1), (0, 1)])
        self.assertEqual(least_row([(1, 1), (-1, 1), (-1, -1), (1, -1)]), [(-2, 0), (-1, 1)] * 4)
        self.assertEqual(least_row([(1, 0), (-1, 2), (0, -1)]), [(-2, 0), (0, 1), (2, 1), (0, 1)])

    def test_the_least_of_all_readings(self):
        for rays in SMOOTH + READ:
            kept = list(rays)
            told = least_row(rays)
            self.assertEqual(rays, kept)
            self.assertEqual(told, least_by_words(rays))
            self.assertIs(type(told), list)
            self.assertEqual({type(one) for one in told}, {tuple})
            self.assertEqual({type(number) for one in told for number in one}, {int})

    def test_some_are_read_back_and_begun_elsewhere(self):
        ways = set()
        for rays in GROWN + READ:
            marked = marked_by_words(rays)
            on, back = [min(begun(row, at) for at in range(len(row))) for row in (marked, marked[::-1])]
            ways.add("on" if on < back else "back" if back < on else "both")
        self.assertEqual(ways, {"on", "back", "both"})

    def test_turnings_and_other_beginnings_keep_it(self):
        for rays in SMALL_SMOOTH[:9] + GROWN[::3] + READ[::2]:
            told = least_row(rays)
            for turning in TURNINGS + [STEEP]:
                other = led_round(turning, rays)
                for at in (0, 1, len(rays) - 1):
                    self.assertEqual(least_row(begun(other, at)), told)

    def test_three_hundred_rays(self):
        rays = [(1, 0), (1, 295), (-1, 0), (0, -1)]
        self.assertEqual(len(least_round(rays)), 299)
        told = least_row(rays)
        self.assertEqual(told, least_by_words(rays))
        self.assertEqual(least_row(led_round(((2, 3), (5, 7)), rays)), told)


class Likeness(unittest.TestCase):
    def assert_alike(self, one, other):
        kept = (list(one), list(other))
        told = likeness(one, other)
        self.assertEqual((one, other), kept)
        self.assertIs(type(told), tuple)
        self.assertEqual(len(told), 2)
        self.assertEqual(told[0], "alike")
        self.assertTrue(is_turning(told[1]))
        self.assertEqual(sorted(led(told[1], one)), sorted(other))
        return told[1]

    def assert_unlike(self, one, other):
        kept = (list(one), list(other))
        told = likeness(one, other)
        self.assertEqual((one, other), kept)
        self.assertIs(type(told), tuple)
        self.assertEqual(told, ("unlike", least_by_words(one), least_by_words(other)))

    def test_rounds_that_turnings_lead_to_one_another(self):
        signs = set()
        for rays in SMALL_SMOOTH[::3] + GROWN[::2] + LONG[:1] + READ:
            for turning in TURNINGS + [STEEP]:
                for at in (0, len(rays) // 2):
                    told = self.assert_alike(rays, begun(led_round(turning, rays), at))
                    signs.add(determinant(told))
        self.assertEqual(signs, {1, -1})

    def test_a_round_is_alike_to_itself(self):
        for rays in SMOOTH + READ:
            self.assert_alike(rays, rays)

    def test_one_that_only_a_turning_of_the_sides_leads(self):
        rays = grown(slanted(3), 5, "lopsided")
        marked = marked_by_words(rays)
        self.assertNotIn(marked[::-1], [begun(marked, at) for at in range(len(marked))])
        other = led_round(((0, 1), (1, 0)), rays)
        self.assertEqual(determinant(self.assert_alike(rays, other)), -1)
        self.assertEqual(determinant(self.assert_alike(rays, led_round(((2, 1), (5, 3)), rays))), 1)

    def test_unlike_ones(self):
        some = [THREE, slanted(0), slanted(1), slanted(2), slanted(3), with_one_more(slanted(0), 0), EIGHT] + ROUGH[:3]
        for one in some:
            for other in some:
                if least_by_words(one) != least_by_words(other):
                    self.assert_unlike(one, other)
        for one, other in zip(READ, READ[1:]):
            if least_by_words(one) != least_by_words(other):
                self.assert_unlike(one, other)
        self.assertEqual(likeness(THREE, slanted(1)),
                         ("unlike", [(1, 1)] * 3, [(-1, 1), (0, 1), (1, 1), (0, 1)]))

    def test_the_same_numbers_and_other_marks(self):
        corners, sides = EIGHT[0::2], EIGHT[1::2]
        self.assertEqual(numbers(EIGHT), [-1, -2] * 4)
        self.assertEqual(least_round(corners), EIGHT)
        self.assert_unlike(corners, EIGHT)
        left_out = [[sides[0]], [sides[1]], sides[:2], sides[0::2]]
        lacking = [[ray for ray in EIGHT if ray not in left] for left in left_out]
        for rays in lacking:
            self.assertEqual(least_round(rays), begun(EIGHT, EIGHT.index(rays[0])))
        self.assert_alike(lacking[0], lacking[1])
        fewer = [EIGHT, lacking[0], lacking[2], lacking[3], corners]
        for one, other in zip(fewer, fewer[1:]):
            self.assert_unlike(one, other)
            self.assert_unlike(other, one)

    def test_small_rounds_against_all_turnings(self):
        near = [((a, b), (c, d)) for a in range(-4, 5) for b in range(-4, 5) for c in range(-4, 5) for d in range(-4, 5)
                if abs(a * d - b * c) == 1]
        small = [THREE, slanted(0), slanted(1), slanted(-1), slanted(2), [(1, 0), (-1, 2), (0, -1)],
                 [(1, 0), (0, 1), (-1, -2)], [(0, 1), (-1, 0), (1, -2)], [(2, 1), (-1, 1), (-1, -2)],
                 [(1, 1), (-1, 1), (-1, -1), (1, -1)], [(1, 0), (-1, 1), (-1, -1)], [(1, 0), (1, 2), (-1, 0), (-1, -2)]]
        found = 0
        for one in small:
            for other in small:
                leads = any(sorted(led(turning, one)) == sorted(other) for turning in near)
                found += leads
                if leads:
                    self.assert_alike(one, other)
                else:
                    self.assert_unlike(one, other)
        self.assertGreater(found, len(small))

    def test_the_turning_leads_least_rounds_too(self):
        for rays in READ:
            other = led_round(((-3, 7), (1, -2)), rays)
            told = likeness(rays, other)[1]
            self.assertEqual(sorted(turned(told, ray) for ray in least_round(rays)), sorted(least_round(other)))

    def test_what_is_told_is_the_askers_own(self):
        one, other = list(THREE), slanted(2)
        kept = (list(least_by_words(one)), list(least_by_words(other)))
        told = likeness(one, other)
        told[1].append(None)
        told[2].clear()
        least_row(one).clear()
        self.assertEqual(likeness(one, other), ("unlike", kept[0], kept[1]))
        self.assertEqual(least_row(one), kept[0])
        told = least_row(one)
        one.clear()
        self.assertEqual(told, kept[0])


if __name__ == "__main__":
    unittest.main()
