"""Promise 12: the least round of a round."""

import unittest

from rayround.leastrounds import least_round
from rayround.rounds import look_round, unspanned
from rayround.wedges import between
from made import EVERY, ROUGH, SMOOTH, THREE, TURNINGS, begun, cross, led_round

PARTED = [rays for rays in EVERY
          if all(len(between(ray, rays[at + 1 - len(rays)])) <= 2000 for at, ray in enumerate(rays))]


class LeastRounds(unittest.TestCase):
    def test_written_ones(self):
        self.assertEqual(least_round([(1, 0), (-1, 2), (0, -1)]), [(1, 0), (0, 1), (-1, 2), (0, -1)])
        self.assertEqual(least_round([(1, 1), (-1, 1), (-1, -1), (1, -1)]),
                         [(1, 1), (0, 1), (-1, 1), (-1, 0), (-1, -1), (0, -1), (1, -1), (1, 0)])
        self.assertEqual(least_round([(2, 1), (-1, 1), (-1, -2)]),
                         [(2, 1), (1, 1), (0, 1), (-1, 1), (-1, 0), (-1, -1), (-1, -2), (0, -1), (1, 0)])

    def test_its_rays_in_order_and_the_others_between(self):
        for rays in PARTED:
            kept = list(rays)
            least = least_round(rays)
            self.assertEqual(rays, kept)
            self.assertIs(type(least), list)
            self.assertEqual(least[0], rays[0])
            self.assertEqual([ray for ray in least if ray in rays], rays)
            self.assertIsNone(look_round(least))
            self.assertIsNone(unspanned(least))
            own = set(rays)
            for at, (x, y) in enumerate(least):
                ahead, behind = least[at - 1], least[at + 1 - len(least)]
                if (x, y) not in own:
                    number = cross(ahead, behind)
                    self.assertGreaterEqual(number, 2)
                    self.assertEqual((ahead[0] + behind[0], ahead[1] + behind[1]), (number * x, number * y))

    def test_a_smooth_round_is_its_own(self):
        for rays in SMOOTH:
            self.assertEqual(least_round(rays), rays)

    def test_the_least_round_again(self):
        for rays in PARTED:
            least = least_round(rays)
            self.assertEqual(least_round(least), least)

    def test_begun_elsewhere_and_turned(self):
        for rays in ROUGH:
            least = least_round(rays)
            for at in range(len(rays)):
                self.assertEqual(least_round(begun(rays, at)), begun(least, least.index(rays[at])))
            for turning in TURNINGS:
                told = least_round(led_round(turning, rays))
                self.assertEqual(sorted(told), sorted(led_round(turning, least)))

    def test_what_is_told_is_the_askers_own(self):
        for rays in [THREE, ROUGH[0], ROUGH[-1]]:
            handed = list(rays)
            told = least_round(handed)
            kept = list(told)
            told[0] = None
            told.append((5, 5))
            self.assertEqual(handed, rays)
            self.assertEqual(least_round(handed), kept)
            told = least_round(handed)
            handed.clear()
            self.assertEqual(told, kept)


if __name__ == "__main__":
    unittest.main()
