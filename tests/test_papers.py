"""Promise 27: the checker tells of any thing whether it is a paper that stands."""

import random
import unittest
from fractions import Fraction

from rayround.likeness import likeness
from rayround.papers import stands
from rayround.partings import parting
from rayround.walks import taken_out, walk
from rayround.wedges import between, shows
from heighted import (
    BODIED, LED_BODIED, bends_by_words, crosses_below_nought, given, many_heights, read, together,
)
from made import (
    FAR, GROWN, LED, LONG, NOT_SMOOTH, ROUGH, SMOOTH, THREE, TURNINGS, begun, cross, grown, led, led_round, slanted,
)
from things import NO_PAIRS, NOT_WHOLE, deep

NOUGHT = (0, 1)
SIX = [(1, 0), (1, 1), (0, 1), (-1, 0), (-1, -1), (0, -1)]
FAN = [(1, 0)] + [(k, 1) for k in range(300, -1, -1)] + [(-1, 0), (0, -1)]
TWICE = [(1, 0), (0, 1), (-1, 0), (0, -1)] * 2


# The five papers by the words of the document, reckoned without the program.

def whole(thing):
    return type(thing) is int


def pair(thing):
    return type(thing) is tuple and len(thing) == 2 and whole(thing[0]) and whole(thing[1])


def ray(thing):
    return pair(thing) and Fraction(thing[0], thing[1] or 1).denominator == abs(thing[1] or 1) and (
        thing[1] != 0 or abs(thing[0]) == 1)


def once_round(thing):
    if type(thing) is not list or len(thing) < 3 or not all(map(ray, thing)):
        return False
    wedges = list(zip(thing, thing[1:] + thing[:1]))
    met = [u == (1, 0) or (u[1] < 0 < v[1]) for u, v in wedges]
    return all(cross(u, v) > 0 for u, v in wedges) and sum(met) == 1


def smooth(thing):
    return once_round(thing) and all(cross(u, v) == 1 for u, v in zip(thing, thing[1:] + thing[:1]))


def ratios(thing, rays):
    return type(thing) is list and len(thing) == len(rays) and all(
        pair(one) and one[1] >= 1 and Fraction(*one).denominator == one[1] for one in thing)


def walk_by_words(rays, places, last):
    if not smooth(rays) or type(places) is not list or not once_round(last):
        return False
    left = list(rays)
    for at in places:
        if not whole(at) or not 0 <= at < len(left) or len(left) < 4:
            return False
        if cross(left[at + 1 - len(left)], left[at - 1]) != -1:
            return False
        del left[at]
    return left == last and len(left) in (3, 4)


def turning_by_words(one, other, turning):
    if not once_round(one) or not once_round(other) or type(turning) is not tuple or len(turning) != 2:
        return False
    if not pair(turning[0]) or not pair(turning[1]) or cross(*turning) not in (1, -1):
        return False
    return set(led(turning, one)) == set(other)


def wedge_by_words(u, v, rays, told):
    if not ray(u) or not ray(v) or cross(u, v) <= 0 or type(rays) is not list or type(told) is not list:
        return False
    if not all(map(ray, rays)) or not all(map(pair, told)) or len(rays) != len(told):
        return False
    wedge = [u] + rays + [v]
    return all(cross(one, other) == 1 for one, other in zip(wedge, wedge[1:])) and all(
        given(f, w) == 1 and min(given(f, x) for x in wedge) >= 1 for f, w in zip(told, rays))


def parting_by_words(rays, height, first, stuck):
    if not smooth(rays) or not all(ratios(one, rays) for one in (height, first, stuck)):
        return False
    bent = bends_by_words(rays, first)
    stuck_at = [at for at, own in enumerate(stuck) if own[0] > 0]
    many = len(rays)
    table = [[0] * many for _ in rays]
    for at in range(many):
        table[at][at] = cross(rays[at + 1 - many], rays[at - 1])
        table[at][at - 1] = table[at][at + 1 - many] = 1
    return (
        together(first, stuck) == height and min(bent) >= 0 and min(own[0] for own in stuck) >= 0
        and all(bent[at] == 0 for at in stuck_at)
        and crosses_below_nought([[table[i][j] for j in stuck_at] for i in stuck_at])
    )


def none_by_words(rays, height, weights):
    if not smooth(rays) or not ratios(height, rays) or type(weights) is not list or len(weights) != len(rays):
        return False
    return all(whole(weight) and weight >= 0 for weight in weights) and (
        sum(weight * x for weight, (x, y) in zip(weights, rays)) == 0
        and sum(weight * y for weight, (x, y) in zip(weights, rays)) == 0
        and sum(weight * read(own) for weight, own in zip(weights, height)) < 0)


BY_WORDS = {
    ("walk", 4): walk_by_words, ("turning", 4): turning_by_words, ("wedge", 5): wedge_by_words,
    ("parting", 5): parting_by_words, ("none", 4): none_by_words,
}


def stands_by_words(thing):
    if type(thing) is not tuple or not thing or type(thing[0]) is not str:
        return False
    words = BY_WORDS.get((thing[0], len(thing)))
    return words is not None and words(*thing[1:])


# Papers as the program tells them.

def walk_paper(rays):
    return ("walk", list(rays)) + walk(rays)


def turning_paper(one, other):
    return ("turning", list(one), list(other), likeness(one, other)[1])


def wedge_paper(u, v):
    return ("wedge", u, v, between(u, v), shows(u, v))


def height_paper(rays, height):
    told = parting(rays, height)
    return ("parting" if told[0] == "parted" else "none", list(rays), list(height)) + told[1:]


WALKS = [walk_paper(rays) for rays in SMOOTH]
TURNED = [
    turning_paper(begun(rays, 1), led_round(turning, rays))
    for rays in [THREE, SIX] + GROWN[::5] + ROUGH[:7] + ROUGH[10:16] for turning in TURNINGS
]
WEDGES = [
    wedge_paper(u, v) for u, v in [
        ((1, 0), (0, 1)), ((1, 0), (-3, 7)), ((1, 0), (-1, 9)), ((2, 1), (1, 3)), ((1, 0), (-5, 8)),
        ((0, 1), (-200, 1)), ((199, 200), (-200, 199)), ((1, 0), (-199, 200)), ((3, -7), (-2, 9)),
    ]
]
WEDGES += [wedge_paper(rays[at], rays[at + 1 - len(rays)]) for rays in FAR[:8] for at in range(len(rays))]
WEDGES = [paper for paper in WEDGES if len(paper[3]) < 80]
PARTED = [height_paper(rays, height) for rays in BODIED + LED_BODIED[::3] for height in many_heights(rays, "papers")]
PAPERS = WALKS + TURNED + WEDGES + PARTED


def changed(thing, path, deed):
    """The thing, with what stands at the path changed by the deed; all else as it was."""
    if not path:
        return deed(thing)
    rest = list(thing)
    rest[path[0]] = changed(rest[path[0]], path[1:], deed)
    return tuple(rest) if isinstance(thing, tuple) else rest


def paths(thing):
    """All ways to things within a thing."""
    told = [()]
    if isinstance(thing, (list, tuple)):
        for at, inner in enumerate(thing):
            told += [(at,) + path for path in paths(inner)]
    return told


def spoilers(thing, dice):
    """Deeds that change a thing."""
    if isinstance(thing, bool) or not isinstance(thing, (int, list, tuple)):
        return [None, "", 0, [], "walk", "none"]
    if isinstance(thing, int):
        return [thing + 1, thing - 1, -thing, 0, 1, True, False, None, str(thing), [thing], (thing, 1), 10 ** 70]
    other = tuple(thing) if isinstance(thing, list) else list(thing)
    same = (lambda things: things) if isinstance(thing, list) else tuple
    things = list(thing)
    told = [other, same([]), same(things + things[:1]), same(things[::-1]), same(things[1:] + things[:1]), None, 0]
    if things:
        at, to = dice.randrange(len(things)), dice.randrange(len(things))
        moved = list(things)
        moved[at], moved[to] = moved[to], moved[at]
        told += [same(things[:at] + things[at + 1:]), same(things[:at] + things[at:at + 1] + things[at:]), same(moved)]
    return told


class PaperCase(unittest.TestCase):
    def assert_told(self, paper, expected):
        words = repr(paper)
        told = stands(paper)
        self.assertIs(told, expected, words[:300])
        self.assertEqual(repr(paper), words)

    def assert_by_words(self, paper):
        self.assert_told(paper, stands_by_words(paper))


class AsTold(PaperCase):
    def test_each_paper_stands(self):
        for paper in PAPERS:
            self.assertTrue(stands_by_words(paper))
            self.assert_told(paper, True)
        kinds = [paper[0] for paper in PAPERS]
        for word in ("walk", "turning", "wedge", "parting", "none"):
            self.assertGreater(kinds.count(word), 30)

    def test_spoilt_at_any_place(self):
        dice = random.Random("spoilt")
        let_by = 0
        for paper in PAPERS[::2]:
            ways = paths(paper)
            for path in dice.sample(ways, min(len(ways), 12)):
                inner = paper
                for at in path:
                    inner = inner[at]
                for spoilt in spoilers(inner, dice):
                    now = changed(paper, path, lambda thing: spoilt)
                    expected = stands_by_words(now)
                    let_by += expected and now != paper
                    self.assert_told(now, expected)
        # Some changes leave a paper that stands: another order of a round's rays, other shows, other weights.
        self.assertGreater(let_by, 10)

    def test_other_words_and_numbers_of_parts(self):
        for paper in PAPERS[::25]:
            for word in ["walk", "turning", "wedge", "parting", "none", "parted", "", "Walk", "walks", 1, None, True, []]:
                if word != paper[0]:
                    self.assert_by_words((word,) + paper[1:])
            for other in [paper[:-1], paper + (paper[-1],), paper[1:], list(paper), (paper,), [paper], paper[:1],
                          paper + (None,), ((paper[0],),) + paper[1:]]:
                self.assert_told(other, False)


class Walks(PaperCase):
    def test_written_ones(self):
        self.assert_told(("walk", SIX, [0, 1], [(1, 1), (-1, 0), (-1, -1), (0, -1)]), True)
        self.assert_told(("walk", THREE, [], THREE), True)
        self.assert_told(("walk", slanted(3), [], slanted(3)), True)
        self.assert_told(("walk", slanted(1), [], slanted(1)), True)
        self.assert_told(("walk", slanted(1), [1], [(1, 0), (-1, 1), (0, -1)]), True)
        self.assert_told(("walk", SIX, [0, 1, 0], [(-1, 0), (-1, -1), (0, -1)]), False)
        self.assert_told(("walk", SIX, [0, 1, 1], [(1, 1), (-1, -1), (0, -1)]), False)

    def test_another_way_down(self):
        for rays in GROWN:
            left, places = list(rays), []
            while len(left) > 4:
                row = [cross(left[at + 1 - len(left)], left[at - 1]) for at in range(len(left))]
                at = max(at for at, number in enumerate(row) if number == -1)
                places.append(at)
                left = taken_out(left, at)
            self.assert_told(("walk", rays, places, left), True)

    def test_spoilt_ones(self):
        five = grown(slanted(2), 1, "five")
        for rays in [grown(slanted(2), 5, "walk"), SIX, grown(THREE, 9, "walk"), LONG[2]]:
            word, rays, places, last = walk_paper(rays)
            for spoilt in [
                (word, rays, places, begun(last, 1)), (word, rays, places, tuple(last)), (word, rays, tuple(places), last),
                (word, tuple(rays), places, last), (word, rays, places[:-1], last), (word, rays, [], rays),
                (word, rays, places[:-1], five),
                (word, rays, places + [0], last), (word, rays, places, last[:3]), (word, rays, places, five),
                (word, rays, [-1] + places[1:], last), (word, rays, [len(rays)] + places[1:], last),
                (word, rays, [10 ** 40] + places[1:], last), (word, rays, ["0"] + places[1:], last),
                (word, rays, [None] + places[1:], last), (word, rays, [places], last), (word, rays, None, last),
                (word, last, places, rays), (word, begun(rays, 1), places, last), (word, rays[:-1], places, last),
                (word, [list(one) for one in rays], places, last), (word, rays, places, [list(one) for one in last]),
            ]:
                self.assert_by_words(spoilt)
                self.assert_told(spoilt, False)

    def test_truths_for_numbers(self):
        places = [0, 1]
        last = [(1, 1), (-1, 0), (-1, -1), (0, -1)]
        for spoilt in [[False, 1], [0, True], [False, True]]:
            self.assertEqual(spoilt, places)
            self.assert_told(("walk", SIX, spoilt, last), False)
        self.assert_told(("walk", SIX, places, [(True, True)] + last[1:]), False)
        self.assert_told(("walk", [(True, False)] + SIX[1:], places, last), False)
        self.assert_told(("walk", SIX, places, last[:3] + [(False, -1)]), False)

    def test_five_rays_left(self):
        for rays in GROWN:
            word, rays, places, last = walk_paper(rays)
            if len(places) > 0:
                left = list(rays)
                for at in places[:-1]:
                    left = taken_out(left, at)
                self.assertEqual(len(left), 5)
                self.assert_told((word, rays, places[:-1], left), False)

    def test_many_rays(self):
        self.assert_told(("walk", FAN, [1] * 300, slanted(0)), True)
        self.assert_told(("walk", FAN, [1] * 299, slanted(0)), False)
        self.assert_told(("walk", FAN, [1] * 301, slanted(0)), False)
        self.assert_told(("walk", FAN, [1] * 200 + [2] + [1] * 99, slanted(0)), False)


class Turned(PaperCase):
    def test_written_ones(self):
        plain = ((1, 0), (0, 1))
        self.assert_told(("turning", THREE, THREE, plain), True)
        self.assert_told(("turning", THREE, begun(THREE, 1), plain), True)
        self.assert_told(("turning", THREE, begun(THREE, 1), ((0, -1), (1, -1))), True)
        self.assert_told(("turning", THREE, THREE, ((0, 1), (1, 0))), True)
        self.assert_told(("turning", THREE, THREE, ((1, 0), (0, -1))), False)
        self.assert_told(("turning", SIX, THREE, plain), False)
        self.assert_told(("turning", THREE, SIX, plain), False)
        self.assert_told(("turning", TWICE[:4], TWICE, plain), False)
        self.assert_told(("turning", TWICE, TWICE, plain), False)
        self.assert_told(("turning", TWICE, TWICE[:4], plain), False)

    def test_spoilt_ones(self):
        for word, one, other, turning in TURNED[::7]:
            (a, b), (c, d) = turning
            for spoilt in [
                (word, one, other, [turning[0], turning[1]]), (word, one, other, ([a, b], [c, d])),
                (word, tuple(one), other, turning), (word, one, tuple(other), turning), (word, one[:-1], other, turning),
                (word, one, other[:-1], turning), (word, one, other, None), (word, one, other, (turning, turning)),
                (word, one + one[:1], other, turning), (word, one, other + other[:1], turning),
                (word, one[::-1], other, turning), (word, one, other[::-1], turning),
                (word, one, other, ((a, b), (c, d), (0, 0))), (word, one, other, ((2 * a, 2 * b), (c, d))),
                (word, one, [(-other[0][0], -other[0][1])] + other[1:], turning), (word, one, other, ((0, 0), (0, 0))),
            ]:
                self.assert_told(spoilt, False)
            for at in range(2):
                for to in range(2):
                    for change in (1, -1, 7):
                        self.assert_by_words((word, one, other, changed(turning, (at, to), lambda k: k + change)))
            self.assert_by_words((word, other, one, turning))
            for at in range(len(other)):
                self.assert_told((word, one, begun(other, at), turning), True)
                self.assert_told((word, begun(one, at), other, turning), True)

    def test_truths_for_numbers(self):
        self.assert_told(("turning", THREE, THREE, ((True, 0), (0, 1))), False)
        self.assert_told(("turning", THREE, THREE, ((1, False), (0, 1))), False)
        self.assert_told(("turning", [(True, 0)] + THREE[1:], THREE, ((1, 0), (0, 1))), False)
        self.assert_told(("turning", THREE, [(1, False)] + THREE[1:], ((1, 0), (0, 1))), False)


class Wedges(PaperCase):
    def test_written_ones(self):
        u, v, rays, told = (1, 0), (-3, 7), [(0, 1), (-1, 3), (-2, 5)], [(2, 1)] * 3
        self.assert_told(("wedge", u, v, rays, told), True)
        self.assert_told(("wedge", (1, 0), (0, 1), [], []), True)
        self.assert_told(("wedge", (1, 0), (-1, 2), [], []), False)
        self.assert_told(("wedge", (1, 0), (0, 1), [(1, 1)], [(1, 0)]), False)
        self.assert_told(("wedge", v, u, rays[::-1], told), False)
        self.assert_told(("wedge", u, v, rays, told[:2] + [(2, 2)]), False)
        self.assert_told(("wedge", u, (-6, 14), rays, told), False)

    def test_no_wedge(self):
        for u, v in [((1, 0), (1, 0)), ((1, 0), (-1, 0)), ((0, 1), (1, 0)), ((0, 0), (1, 0)), ((1, 0), (0, 0))]:
            self.assert_told(("wedge", u, v, [], []), False)
        # Once round and on: neighbours cross in 1, but no show can be there.
        round_again = [(0, 1), (-1, 0), (0, -1), (1, 0)]
        for show in [(1, 0), (0, 1), (1, 1), (-1, 1)]:
            self.assert_told(("wedge", (1, 0), (0, 1), round_again, [show] * 4), False)
        self.assert_told(("wedge", (1, 0), (0, 1), round_again, []), False)

    def test_spoilt_ones(self):
        for word, u, v, rays, told in WEDGES:
            if not rays:
                continue
            for spoilt in [
                (word, v, u, rays, told), (word, u, v, rays[1:], told[1:]), (word, u, v, rays[:-1], told[:-1]),
                (word, u, v, rays, told[1:]), (word, u, v, rays, told + told[:1]), (word, u, v, rays, []),
                (word, u, v, [], []), (word, list(u), v, rays, told), (word, u, list(v), rays, told),
                (word, u, v, tuple(rays), told), (word, u, v, rays, tuple(told)), (word, u, v, rays[1:], told),
                (word, u, v, [list(one) for one in rays], told), (word, u, v, rays, [list(one) for one in told]),
                (word, u, v, rays, [(0, 0)] * len(told)), (word, u, v, rays, [None] * len(told)),
                (word, (-u[0], -u[1]), v, rays, told), (word, u, (-v[0], -v[1]), rays, told),
            ]:
                self.assert_told(spoilt, False)
            put = (u[0] + rays[0][0], u[1] + rays[0][1])
            for show in told[:1] + [(1, 0), (0, 1), (1, 1)]:
                self.assert_told((word, u, v, [put] + rays, [show] + told), False)
            for at in range(len(told)):
                for change in [(1, 0), (0, 1), (-1, -1), (u[1], -u[0])]:
                    other = (told[at][0] + change[0], told[at][1] + change[1])
                    self.assert_by_words((word, u, v, rays, told[:at] + [other] + told[at + 1:]))

    def test_truths_for_numbers(self):
        paper = ("wedge", (1, 0), (-1, 2), [(0, 1)], [(1, 1)])
        self.assert_told(paper, True)
        for path in [(1, 0), (1, 1), (3, 0, 0), (3, 0, 1), (4, 0, 0), (4, 0, 1)]:
            spoilt = changed(paper, path, bool)
            self.assertEqual(spoilt, paper)
            self.assert_told(spoilt, False)


class Parted(PaperCase):
    def test_written_ones(self):
        four = slanted(2)
        height, first, stuck = [NOUGHT, (1, 1), (1, 1), NOUGHT], [NOUGHT, (1, 2), (1, 1), NOUGHT], [
            NOUGHT, (1, 2), NOUGHT, NOUGHT]
        self.assert_told(("parting", four, height, first, stuck), True)
        self.assert_told(("parting", four, first, first, [NOUGHT] * 4), True)
        self.assert_told(("parting", four, height, height, [NOUGHT] * 4), False)
        self.assert_told(("parting", four, height, stuck, first), False)
        self.assert_told(("parting", four, height, [NOUGHT] * 4, height), False)

    def test_rays_that_do_not_cross_below_nought(self):
        # All noughts bend nowhere; then whatever is stuck must cross itself below 0.
        for rays, stuck_at, expected in [
            (slanted(0), [0], False), (slanted(0), [1], False), (slanted(1), [1], True), (slanted(1), [3], False),
            (SIX, [0], True), (SIX, [0, 1], False), (SIX, [0, 2], True), (SIX, [0, 2, 4], True), (SIX, [0, 3], True),
            (SIX, [0, 2, 3], False), (SIX, range(6), False), (THREE, range(3), False), (THREE, [0], False),
            (SIX, [5, 0], False), (SIX, [5, 1], True), (SIX, [5, 1, 3], True),
        ]:
            stuck = [(1, 3) if at in stuck_at else NOUGHT for at in range(len(rays))]
            paper = ("parting", rays, stuck, [NOUGHT] * len(rays), stuck)
            self.assert_by_words(paper)
            self.assert_told(paper, expected)

    def test_any_rays_stuck(self):
        dice = random.Random("stuck")
        told = {True: 0, False: 0}
        for rays in BODIED + LED + LONG:
            for some in (2, 3, 4, 8):
                stuck = [(dice.randint(1, 9), 1) if dice.randrange(some) == 0 else NOUGHT for _ in rays]
                paper = ("parting", rays, stuck, [NOUGHT] * len(rays), stuck)
                told[stands_by_words(paper)] += 1
                self.assert_by_words(paper)
        self.assertGreater(min(told.values()), 30)

    def test_spoilt_ones(self):
        for word, rays, height, *parts in PARTED[::3]:
            if word != "parting":
                continue
            first, stuck = parts
            for at in range(len(rays)):
                for move in [(1, 1), (-1, 1), (1, 9999)]:
                    back = (-move[0], move[1])
                    moved = [together([first[at]], [move]), together([stuck[at]], [back])]
                    self.assert_told((word, rays, height, first[:at] + moved[0] + first[at + 1:],
                                      stuck[:at] + moved[1] + stuck[at + 1:]), False)
                    self.assert_told((word, rays, height, first[:at] + moved[0] + first[at + 1:], stuck), False)
                    self.assert_told((word, rays, height, first, stuck[:at] + moved[1] + stuck[at + 1:]), False)
                    self.assert_told((word, rays, height[:at] + together([height[at]], [move]) + height[at + 1:],
                                      first, stuck), False)
            for spoilt in [
                (word, rays, height[:-1], first, stuck), (word, rays, height, first[:-1], stuck),
                (word, rays, height, first, stuck[:-1]), (word, rays, height + height[:1], first, stuck),
                (word, rays, tuple(height), first, stuck), (word, rays, height, tuple(first), stuck),
                (word, rays, height, first, tuple(stuck)), (word, tuple(rays), height, first, stuck),
                (word, rays[::-1], height, first, stuck), (word, rays[:-1], height[:-1], first[:-1], stuck[:-1]),
                (word, rays, [list(own) for own in height], first, stuck), ("parted", rays, height, first, stuck),
                ("none", rays, height, first, stuck), (word, rays, [own[0] for own in height], first, stuck),
                (word, rays, height, first, None),
            ]:
                self.assert_by_words(spoilt)
                if spoilt[1] != rays[:-1]:
                    self.assert_told(spoilt, False)

    def test_ratios_that_are_none(self):
        rays, zeros = THREE, [NOUGHT] * 3
        self.assert_told(("parting", rays, zeros, zeros, zeros), True)
        for own in [(0, 2), (0, -1), (0, 0), (0, 5), 0, False, None, "0", [0, 1], (0,), (0, 1, 1), (False, 1), (0, True)]:
            for at in range(3):
                spoilt = zeros[:at] + [own] + zeros[at + 1:]
                self.assert_told(("parting", rays, spoilt, zeros, zeros), False)
                self.assert_told(("parting", rays, zeros, spoilt, zeros), False)
                self.assert_told(("parting", rays, zeros, zeros, spoilt), False)
                self.assert_told(("parting", rays, spoilt, spoilt, spoilt), False)
        ones = [(1, 1)] * 3
        self.assert_told(("parting", rays, ones, ones, zeros), True)
        for own in [(2, 2), (-1, -1), (3, 3), 1, True, (True, 1), (1, True)]:
            self.assert_told(("parting", rays, [own] + ones[1:], [own] + ones[1:], zeros), False)
            self.assert_told(("parting", rays, ones, [own] + ones[1:], zeros), False)

    def test_a_round_that_is_not_smooth(self):
        for rays in NOT_SMOOTH:
            zeros = [NOUGHT] * len(rays)
            self.assert_told(("parting", rays, zeros, zeros, zeros), False)
        for rays in [TWICE, SIX[:3], SIX[::-1], [], [(2, 0), (0, 1), (-1, -1)], None]:
            zeros = [NOUGHT] * len(rays or [])
            self.assert_told(("parting", rays, zeros, zeros, zeros), False)


class Nones(PaperCase):
    def test_written_ones(self):
        low = [(-1, 1)] * 3
        self.assert_told(("none", THREE, low, [1, 1, 1]), True)
        self.assert_told(("none", THREE, low, [5, 5, 5]), True)
        self.assert_told(("none", THREE, low, [0, 0, 0]), False)
        self.assert_told(("none", THREE, low, [-1, -1, -1]), False)
        self.assert_told(("none", THREE, [(1, 1)] * 3, [-1, -1, -1]), False)
        self.assert_told(("none", THREE, low, [1, 1, 2]), False)
        self.assert_told(("none", THREE, low, [1, 1, True]), False)
        self.assert_told(("none", THREE, low, [1, 1]), False)
        self.assert_told(("none", THREE, low, [1, 1, 1, 0]), False)
        self.assert_told(("none", THREE, low, (1, 1, 1)), False)
        self.assert_told(("none", THREE, [NOUGHT] * 3, [1, 1, 1]), False)
        self.assert_told(("none", THREE, [(1, 3), (1, 3), (-2, 3)], [1, 1, 1]), False)
        self.assert_told(("none", THREE, [(1, 3), (1, 3), (-667, 1000)], [1, 1, 1]), True)
        self.assert_told(("none", slanted(0), [(-1, 1), NOUGHT, NOUGHT, NOUGHT], [1, 0, 1, 0]), True)
        self.assert_told(("none", slanted(0), [(-1, 1), NOUGHT, NOUGHT, NOUGHT], [1, 0, 1, False]), False)

    def test_spoilt_ones(self):
        for paper in PARTED:
            if paper[0] != "none":
                continue
            word, rays, height, weights = paper
            many = len(rays)
            self.assert_told((word, rays, height, [3 * weight for weight in weights]), True)
            for spoilt in [
                (word, rays, height, [0] * many), (word, rays, height, [-weight for weight in weights]),
                (word, rays, height, weights[:-1]), (word, rays, height, weights + [0]),
                (word, rays, height[:-1], weights), (word, rays, tuple(height), weights),
                (word, rays, height, tuple(weights)), (word, tuple(rays), height, weights),
                (word, rays, [(-own[0], own[1]) for own in height], weights), (word, rays, weights, height),
                (word, rays, height, [(weight, 1) for weight in weights]), (word, rays, height, None),
            ]:
                self.assert_told(spoilt, False)
            for at in range(many):
                self.assert_told((word, rays, height, weights[:at] + [weights[at] + 1] + weights[at + 1:]), False)

    def test_a_round_that_is_none(self):
        for rays in NOT_SMOOTH + [TWICE, SIX[::-1]]:
            self.assert_told(("none", rays, [(-1, 1)] * len(rays), [1] * len(rays)), False)
        self.assert_told(("none", TWICE, [(-1, 1)] * 8, [1] * 8), False)


class AnyThing(PaperCase):
    def test_any_thing_at_all(self):
        some = NO_PAIRS + NOT_WHOLE + [THREE, tuple(THREE), ((), ()), "walk", "none", ("walk",), ["walk", [], [], []]]
        for thing in some + [deep(core, 5) for core in ("walk", 0, None, True, "")]:
            self.assert_told(thing, False)
            for word in ["walk", "turning", "wedge", "parting", "none", "?"]:
                for many in range(6):
                    self.assert_told((word,) + (thing,) * many, False)
                    self.assert_told([word] + [thing] * many, False)

    def test_any_thing_for_a_part(self):
        some = NO_PAIRS + NOT_WHOLE + [THREE, [0], [NOUGHT] * 3, ((1, 0), (0, 1)), 10 ** 80, -1]
        for paper in [WALKS[0], WALKS[40], TURNED[0], WEDGES[1]] + [
            [one for one in PARTED if one[0] == word][0] for word in ("parting", "none")
        ]:
            for path in paths(paper):
                for thing in some:
                    self.assert_by_words(changed(paper, path, lambda inner: thing))

    def test_large_things(self):
        row = [(1, 0)] * 500
        self.assert_told(("walk", row, [0] * 400, THREE), False)
        self.assert_told(("turning", row, row, ((1, 0), (0, 1))), False)
        self.assert_told(("turning", FAN, FAN, ((1, 0), (0, 1))), True)
        self.assert_told(("turning", FAN, FAN[1:] + FAN[:1], ((1, 0), (0, 1))), True)
        zeros = [NOUGHT] * len(FAN)
        self.assert_told(("parting", FAN, zeros, zeros, zeros), True)
        self.assert_told(("none", FAN, [(-1, 1)] * len(FAN), [1, 0] + [0] * 300 + [1, 0]), True)


if __name__ == "__main__":
    unittest.main()
