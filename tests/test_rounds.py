"""Promises 7 and 8: which things are rounds, and which rounds are smooth."""

import copy
import unittest

from rayround.errors import NoRound, NotSmooth, RayError
from rayround.rounds import ask_smooth, look_round, unspanned
from made import EVERY, FAR, LED, ROUGH, SMALL_SMOOTH, SMOOTH, THREE, begun, cross, slanted
from things import NO_PAIRS, NOT_WHOLE, deep

TWICE = [
    THREE + THREE,
    THREE + slanted(0),
    slanted(3) + slanted(-1),
    [(1, 0), (-4, 3), (1, -3), (1, 3), (-4, -3)],
    [(5, 1), (-4, 3), (1, -3), (1, 3), (-4, -3)],
    [(5, -1), (-4, 3), (1, -3), (1, 3), (-4, -3)],
    [(1, 1), (-1, 0), (1, -1), (0, 1), (-1, -1), (2, -1), (1, 0), (-1, 1), (-1, -2)],
]
THRICE = [
    THREE * 3, slanted(0) * 3, THREE + slanted(1) + slanted(2), TWICE[3] + THREE, TWICE[6] + [(1, 1), (-1, 0), (1, -1)],
]
LOOKED = [THREE, slanted(2), [(2, 1), (-1, 1), (-1, -2)], FAR[5], FAR[-1]]


class RoundCase(unittest.TestCase):
    def refused(self, thing, where, at):
        kept = copy.deepcopy(thing)
        with self.assertRaises(NoRound) as caught:
            look_round(thing)
        self.assertEqual((caught.exception.where, caught.exception.at), (where, at), repr(thing)[:200])
        self.assertIs(type(caught.exception.where), str)
        self.assertIs(type(caught.exception.at), int)
        self.assertEqual(thing, kept)


class Rounds(RoundCase):
    def test_rounds_are_let_by(self):
        self.assertEqual({len(rays) for rays in FAR + ROUGH}, set(range(3, 15)))
        for rays in EVERY:
            kept = list(rays)
            self.assertIsNone(look_round(rays))
            self.assertEqual(rays, kept)

    def test_rounds_begun_anywhere_are_let_by(self):
        for rays in SMALL_SMOOTH + ROUGH + FAR:
            for at in range(len(rays)):
                self.assertIsNone(look_round(begun(rays, at)))

    def test_rounds_that_miss_the_direction_and_that_have_it(self):
        for rays in [
            [(1, 1), (-1, 1), (-1, -1), (1, -1)], [(1, 2), (-2, 1), (0, -1)], [(1, -5), (0, 1), (-1, -1)],
            [(1, 0), (0, 1), (-1, 0), (0, -1)], [(1, 0), (-1, 1), (-1, -1)], [(3, 1), (-1, 0), (3, -1)],
        ]:
            for at in range(len(rays)):
                self.assertIsNone(look_round(begun(rays, at)), rays)

    def test_very_large_rays(self):
        far = 10 ** 70
        self.assertIsNone(look_round([(1, 0), (far, 1), (-1, far), (-far - 1, -far)]))


class NoLists(RoundCase):
    def test_other_things(self):
        for thing in NOT_WHOLE + [0, 1, -3, 10 ** 50, tuple(THREE), "1,0 0,1 -1,-1", (THREE,), deep(THREE, 1)[0]]:
            if thing != THREE:
                self.refused(thing, "round", 0)

    def test_lists_of_fewer_than_three_things(self):
        for thing in [[], [(1, 0)], [(1, 0), (0, 1)], [None], [1, 2], [THREE], [THREE, THREE], ["a", "b"], [[], []]]:
            self.refused(thing, "round", 0)


class NoRays(RoundCase):
    def test_no_ray_at_each_place(self):
        others = [thing for thing in NO_PAIRS if thing not in ([(1, 0)],)] + [
            (0, 0), (2, 0), (0, -3), (2, 4), (-6, -9), (200, 100), (True, False), (1, True), (0, 1, 2), [1, 0],
        ]
        for rays in LOOKED:
            for at in range(len(rays)):
                for other in others:
                    self.refused(rays[:at] + [other] + rays[at + 1:], "ray", at)

    def test_a_ray_twice_as_long_and_truths_within(self):
        for rays in LOOKED:
            for at, (x, y) in enumerate(rays):
                self.refused(rays[:at] + [(2 * x, 2 * y)] + rays[at + 1:], "ray", at)
                self.refused(rays[:at] + [[x, y]] + rays[at + 1:], "ray", at)
        self.refused([(True, 0), (0, 1), (-1, -1)], "ray", 0)
        self.refused([(1, 0), (False, 1), (-1, -1)], "ray", 1)
        self.refused([(1, 0), (0, 1), (-1, -1), (0, True)], "ray", 3)

    def test_the_first_one_is_told(self):
        self.refused([(1, 0), None, (2, 2)], "ray", 1)
        self.refused([(1, 0), (0, 1), 0, 0], "ray", 2)
        self.refused([None, None, None], "ray", 0)
        self.refused([0] * 2000, "ray", 0)
        self.refused([(1, 0), (0, 1), (-1, -1)] * 600 + [deep((1, 0), 5)], "ray", 1800)

    def test_it_comes_ahead_of_wedges_and_turns(self):
        self.refused([(1, 0), (1, 0), (-1, -1), (0, 2)], "ray", 3)
        self.refused([(0, 1), (1, 0), (0, 0)], "ray", 2)
        self.refused(THREE + THREE + [(2, 0)], "ray", 6)


class NoWedges(RoundCase):
    def first_fault(self, rays):
        return [cross(ray, rays[at + 1 - len(rays)]) > 0 for at, ray in enumerate(rays)].index(False)

    def test_written_ones(self):
        self.refused([(1, 0), (1, 0), (0, 1), (-1, -1)], "wedge", 0)
        self.refused([(1, 0), (0, 1), (-1, -1), (1, 0)], "wedge", 3)
        self.refused([(1, 0), (-1, 0), (0, -1)], "wedge", 0)
        self.refused([(1, 0), (0, 1), (0, -1)], "wedge", 1)
        self.refused([(1, 0), (1, 1), (0, 1)], "wedge", 2)
        self.refused([(0, 1), (1, 0), (-1, -1)], "wedge", 0)
        self.refused([(1, 0), (0, 1), (-1, 0)], "wedge", 2)

    def test_a_ray_told_twice(self):
        for rays in LOOKED:
            for at in range(len(rays)):
                self.refused(rays[:at] + [rays[at]] + rays[at:], "wedge", at)

    def test_a_ray_turned_round(self):
        for rays in LOOKED:
            for at, (x, y) in enumerate(rays):
                thing = rays[:at] + [(-x, -y)] + rays[at + 1:]
                self.refused(thing, "wedge", self.first_fault(thing))

    def test_a_ray_exchanged_with_the_next_one(self):
        for rays in LOOKED:
            for at in range(len(rays)):
                thing = list(rays)
                thing[at], thing[at + 1 - len(rays)] = thing[at + 1 - len(rays)], thing[at]
                self.refused(thing, "wedge", self.first_fault(thing))

    def test_the_list_backwards(self):
        for rays in LOOKED:
            self.refused(rays[::-1], "wedge", 0)

    def test_it_comes_ahead_of_turns(self):
        for rays in TWICE:
            for at in range(len(rays)):
                self.refused(rays[:at] + [rays[at]] + rays[at:], "wedge", at)


class Turns(RoundCase):
    def test_twice_and_three_times_begun_anywhere(self):
        for rays in TWICE + THRICE + [FAR[0] + begun(FAR[0], 0), FAR[3] * 2, FAR[-1] * 3, THREE * 60]:
            for at in range(len(rays)):
                self.refused(begun(rays, at), "turns", 0)


class Unspanned(unittest.TestCase):
    def test_smooth_rounds(self):
        for rays in SMOOTH:
            kept = list(rays)
            self.assertIsNone(unspanned(rays))
            self.assertEqual(rays, kept)

    def test_written_ones(self):
        self.assertEqual(unspanned([(1, 0), (-1, 2), (0, -1)]), 0)
        self.assertEqual(unspanned([(0, -1), (1, 0), (-1, 2)]), 1)
        self.assertEqual(unspanned([(-1, 1), (0, -1), (1, 0), (-1, 2)]), 2)
        self.assertEqual(unspanned([(1, 0), (0, 1), (-1, -2)]), 2)
        self.assertEqual(unspanned([(0, 1), (-1, -2), (1, 0)]), 1)
        self.assertIs(type(unspanned([(1, 0), (-1, 2), (0, -1)])), int)

    def test_the_first_ray_of_rounds_begun_anywhere(self):
        last = 0
        for rays in ROUGH + FAR + LED:
            for at in range(len(rays)):
                moved = begun(rays, at)
                lacking = [k for k, ray in enumerate(moved) if cross(ray, moved[k + 1 - len(moved)]) != 1]
                self.assertEqual(unspanned(moved), lacking[0] if lacking else None)
                last += lacking == [len(moved) - 1]
        self.assertGreater(last, 0)

    def test_what_asks_for_a_smooth_round(self):
        for rays in SMOOTH:
            self.assertIsNone(ask_smooth(rays))
        for rays in ROUGH:
            if unspanned(rays) is not None:
                with self.assertRaises(NotSmooth) as caught:
                    ask_smooth(rays)
                self.assertIsInstance(caught.exception, RayError)


if __name__ == "__main__":
    unittest.main()
