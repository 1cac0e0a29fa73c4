"""Promises 15 and 16: rays put in and taken out, walks down to four rays, and slants."""

import unittest

from rayround.errors import NoFour, NoMinus, NoPlace, NotSmooth
from rayround.leastrounds import least_round
from rayround.numbers import numbers
from rayround.rounds import look_round, unspanned
from rayround.walks import put_in, slant, taken_out, walk
from made import (
    EDGE, FAR, GROWN, LED, LONG, ROUGH, SMALL_SMOOTH, SMOOTH, THREE, TURNINGS, begun, grown, led_round, slanted,
    with_one_more,
)

NOT_SMOOTH = [rays for rays in ROUGH + FAR + EDGE if unspanned(rays) is not None]
SIX = [(1, 0), (1, 1), (0, 1), (-1, 0), (-1, -1), (0, -1)]
LEAST = [rays for rays in map(least_round, ROUGH) if 5 <= len(rays) <= 60]
NO_PLACES = [-1, -2, -(10 ** 39), 10 ** 39, 10 ** 40, -60]


class WalkCase(unittest.TestCase):
    def assert_smooth(self, rays):
        self.assertIs(type(rays), list)
        self.assertIsNone(look_round(rays))
        self.assertIsNone(unspanned(rays))

    def refused(self, error, deed, rays, *more):
        kept = list(rays)
        with self.assertRaises(error) as caught:
            deed(rays, *more)
        self.assertIs(type(caught.exception), error)
        self.assertEqual(rays, kept)


class PutIn(WalkCase):
    def test_written_ones(self):
        self.assertEqual(put_in(THREE, 0), [(1, 0), (1, 1), (0, 1), (-1, -1)])
        self.assertEqual(put_in(THREE, 1), [(1, 0), (0, 1), (-1, 0), (-1, -1)])
        self.assertEqual(put_in(THREE, 2), [(1, 0), (0, 1), (-1, -1), (0, -1)])

    def test_at_each_place(self):
        for rays in SMOOTH:
            kept, ahead = list(rays), numbers(rays)
            for at in range(len(rays)):
                told = put_in(rays, at)
                self.assertEqual(rays, kept)
                self.assertEqual(told, with_one_more(rays, at))
                self.assert_smooth(told)
                self.assertEqual(told[0], rays[0])
                expected = list(ahead)
                expected[at] -= 1
                expected[(at + 1) % len(rays)] -= 1
                self.assertEqual(numbers(told), expected[:at + 1] + [-1] + expected[at + 1:])

    def test_taken_out_again(self):
        for rays in SMOOTH:
            for at in range(len(rays)):
                self.assertEqual(taken_out(put_in(rays, at), at + 1), rays)

    def test_no_places(self):
        for rays in SMALL_SMOOTH + GROWN:
            for at in NO_PLACES + [len(rays), len(rays) + 1, -len(rays), 2 * len(rays)]:
                self.refused(NoPlace, put_in, rays, at)
                self.refused(NoPlace, taken_out, rays, at)

    def test_a_round_that_is_not_smooth_whatever_the_place(self):
        for rays in NOT_SMOOTH:
            for at in NO_PLACES + list(range(len(rays) + 2)):
                self.refused(NotSmooth, put_in, rays, at)
                self.refused(NotSmooth, taken_out, rays, at)

    def test_what_is_told_is_the_askers_own(self):
        for deed, rays in [(put_in, THREE), (taken_out, SIX)]:
            handed = list(rays)
            told = deed(handed, 1)
            kept = list(told)
            told.clear()
            self.assertEqual(handed, rays)
            told = deed(handed, 1)
            self.assertEqual(told, kept)
            handed.clear()
            self.assertEqual(told, kept)


class TakenOut(WalkCase):
    def test_written_ones(self):
        self.assertEqual(taken_out(SIX, 0), SIX[1:])
        self.assertEqual(taken_out(SIX, 3), SIX[:3] + SIX[4:])
        self.assertEqual(taken_out(SIX, 5), SIX[:5])
        self.assertEqual(taken_out(slanted(1), 1), [(1, 0), (-1, 1), (0, -1)])
        self.assertEqual(taken_out(slanted(-1), 3), [(1, 0), (0, 1), (-1, -1)])

    def test_each_ray_of_number_minus_one_and_no_other(self):
        places = set()
        for rays in SMOOTH + LEAST:
            for start in (0, 1, len(rays) // 2):
                moved = begun(rays, start)
                ahead, kept = numbers(moved), list(moved)
                for at, number in enumerate(ahead):
                    if number != -1 or len(moved) < 4:
                        self.refused(NoMinus, taken_out, moved, at)
                        continue
                    places.add("first" if at == 0 else "last" if at == len(moved) - 1 else "within")
                    told = taken_out(moved, at)
                    self.assertEqual(moved, kept)
                    self.assertEqual(told, moved[:at] + moved[at + 1:])
                    self.assert_smooth(told)
                    expected = list(ahead)
                    expected[at - 1] += 1
                    expected[(at + 1) % len(moved)] += 1
                    self.assertEqual(numbers(told), expected[:at] + expected[at + 1:])
                    self.assertEqual(told[0], moved[1] if at == 0 else moved[0])
        self.assertEqual(places, {"first", "last", "within"})

    def test_a_round_of_three_rays(self):
        for turning in TURNINGS:
            rays = led_round(turning, THREE)
            for at in range(3):
                self.refused(NoMinus, taken_out, rays, at)

    def test_other_numbers(self):
        for s in (0, 2, 7):
            for at in range(4):
                self.refused(NoMinus, taken_out, slanted(s), at)


class Walks(WalkCase):
    def looked(self, rays):
        kept = list(rays)
        told = walk(rays)
        self.assertEqual(rays, kept)
        self.assertIs(type(told), tuple)
        places, last = told
        self.assertIs(type(places), list)
        left = list(rays)
        for at in places:
            self.assertGreaterEqual(len(left), 5)
            self.assertEqual(at, numbers(left).index(-1))
            self.assertIs(type(at), int)
            left = left[:at] + left[at + 1:]
        self.assertEqual(left, last)
        self.assertEqual(len(last), min(len(rays), 4))
        self.assert_smooth(last)
        return places, last

    def test_written_ones(self):
        self.assertEqual(walk(THREE), ([], THREE))
        self.assertEqual(walk(slanted(1)), ([], slanted(1)))
        self.assertEqual(walk(SIX), ([0, 1], [(1, 1), (-1, 0), (-1, -1), (0, -1)]))
        self.assertEqual(walk(put_in(slanted(2), 3)), ([0], [(0, 1), (-1, 2), (0, -1), (1, -1)]))
        self.assertEqual(walk(begun(put_in(slanted(2), 3), 1)), ([3], [(0, 1), (-1, 2), (0, -1), (1, 0)]))
        self.assertEqual(walk(put_in(slanted(2), 1)), ([2], slanted(2)))

    def test_the_places_and_the_last_round(self):
        for rays in SMOOTH + LEAST:
            for start in (0, 1, len(rays) - 1):
                self.looked(begun(rays, start))

    def test_the_number_of_places(self):
        self.assertEqual({len(rays) for rays in LONG}, {23, 24, 60})
        for rays in LONG:
            places, last = self.looked(rays)
            self.assertEqual(len(places), len(rays) - 4)

    def test_back_ray_by_ray(self):
        for rays in LONG + GROWN + LED:
            places, last = walk(rays)
            left = [rays]
            for at in places:
                left.append(taken_out(left[-1], at))
            self.assertEqual(left.pop(), last)
            now = last
            for at in places[::-1]:
                # Behind the ray ahead it is put in again; the first one stands at the end then, gone round alike.
                now = put_in(now, at - 1 if at > 0 else len(now) - 1)
                now = now if at > 0 else now[-1:] + now[:-1]
                self.assertEqual(now, left.pop())
            self.assertEqual(now, rays)

    def test_a_round_that_is_not_smooth(self):
        for rays in NOT_SMOOTH:
            self.refused(NotSmooth, walk, rays)

    def test_what_is_told_is_the_askers_own(self):
        for rays in [THREE, slanted(2), SIX]:
            handed = list(rays)
            places, last = walk(handed)
            kept = (list(places), list(last))
            places.append(9)
            last.clear()
            self.assertEqual(handed, rays)
            told = walk(handed)
            self.assertEqual(told, kept)
            handed.clear()
            self.assertEqual(told, kept)


class Slants(WalkCase):
    def test_four_rays_begun_at_each(self):
        for s in [0, 1, 2, 3, 7, 59, 200]:
            for sign in (1, -1):
                for turning in TURNINGS:
                    rays = led_round(turning, slanted(sign * s))
                    for at in range(4):
                        self.assertEqual(slant(begun(rays, at)), s)
        self.assertIs(type(slant(slanted(0))), int)

    def test_the_slant_of_last_rounds(self):
        for rays in LONG + GROWN + LEAST:
            if len(rays) >= 4:
                last = walk(rays)[1]
                s = slant(last)
                self.assertGreaterEqual(s, 0)
                self.assertIn([0, s, 0, -s], [begun(numbers(last), at) for at in range(4)])

    def test_another_number_of_rays(self):
        for rays in [THREE, SIX] + [grown(THREE, many, 5) for many in (2, 3, 9)] + LONG:
            self.refused(NoFour, slant, rays)

    def test_a_round_that_is_not_smooth(self):
        self.assertEqual({len(rays) for rays in NOT_SMOOTH}, set(range(3, 15)))
        for rays in NOT_SMOOTH:
            self.refused(NotSmooth, slant, rays)


if __name__ == "__main__":
    unittest.main()
