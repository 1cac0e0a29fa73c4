"""Promises 29 and 30: the desk, its rows, answers and refusals."""

import random
import unittest

from rayround.desk import Desk
from rayround.dots import dots_by_crossing
from rayround.errors import NoHeight, NoMinus, NoOne, NoPlace, NoRow, NotSmooth, NoText, Unknown
from rayround.heights import bends, crossing
from rayround.leastrounds import least_round
from rayround.numbers import numbers
from rayround.sixteen import opposite_one, sixteen
from rayround.texts import height_text, ratio_text, read_height, read_round, read_row, round_text, row_text
from heighted import BODIED, LED_BODIED, heights_for, outward_heights, together
from made import GROWN, LONG, NOT_SMOOTH, ROUGH, THREE, TURNINGS, begun, led_round, slanted
from things import NO_PAIRS

THREE_TEXT = "1,0 0,1 -1,-1"
ROUGH_TEXT = "1,0 0,1 -1,-2"
WORDS = [
    "round", "height", "least", "show", "numbers", "put", "take", "walk", "alike", "bends", "cross", "dots", "part", "kind",
]


class DeskCase(unittest.TestCase):
    def setUp(self):
        self.desk = Desk()

    def say(self, row):
        told = self.desk.say(row)
        self.assertIs(type(told), str)
        return told

    def ok(self, row):
        self.assertEqual(self.say(row), "ok")

    def refused(self, error, row):
        with self.assertRaises(error) as caught:
            self.desk.say(row)
        self.assertIs(type(caught.exception), error, row)


class Answers(DeskCase):
    def test_rounds(self):
        self.ok(f"round a {THREE_TEXT}")
        self.assertEqual(self.say("show a"), THREE_TEXT)
        self.ok(f"round abcdefgh {ROUGH_TEXT}")
        self.assertEqual(self.say("show abcdefgh"), ROUGH_TEXT)
        self.ok(f"round a {ROUGH_TEXT}")
        self.assertEqual(self.say("show a"), ROUGH_TEXT)

    def test_least_rounds(self):
        self.ok(f"round a {ROUGH_TEXT}")
        self.ok("least a b")
        self.assertEqual(self.say("show a"), ROUGH_TEXT)
        self.assertEqual(self.say("show b"), "1,0 0,1 -1,-2 0,-1")
        self.ok("least a a")
        self.assertEqual(self.say("show a"), "1,0 0,1 -1,-2 0,-1")

    def test_numbers(self):
        self.ok(f"round a {THREE_TEXT}")
        self.assertEqual(self.say("numbers a"), "1 1 1")
        self.ok("put a 0")
        self.assertEqual(self.say("numbers a"), "0 -1 0 1")

    def test_put_and_take(self):
        self.ok(f"round a {THREE_TEXT}")
        self.ok("put a 2")
        self.assertEqual(self.say("show a"), "1,0 0,1 -1,-1 0,-1")
        self.ok("put a 0")
        self.assertEqual(self.say("show a"), "1,0 1,1 0,1 -1,-1 0,-1")
        self.ok("take a 1")
        self.ok("take a 3")
        self.assertEqual(self.say("show a"), THREE_TEXT)

    def test_walks(self):
        self.ok(f"round a {THREE_TEXT}")
        self.assertEqual(self.say("walk a"), f"- / {THREE_TEXT}")
        self.ok("round a 1,0 1,1 0,1 -1,0 -1,-1 0,-1")
        self.assertEqual(self.say("walk a"), "0 1 / 1,1 -1,0 -1,-1 0,-1")
        self.assertEqual(self.say("show a"), "1,0 1,1 0,1 -1,0 -1,-1 0,-1")

    def test_rounds_alike(self):
        self.ok(f"round a {THREE_TEXT}")
        self.ok("round b 2,5 3,8 -5,-13")
        self.ok(f"round c {ROUGH_TEXT}")
        self.assertEqual(self.say("alike a b"), "yes")
        self.assertEqual(self.say("alike a a"), "yes")
        self.assertEqual(self.say("alike a c"), "no")
        self.assertEqual(self.say("alike c c"), "yes")

    def test_heights(self):
        self.ok(f"round a {THREE_TEXT}")
        self.ok("height a h 1 1 1")
        self.ok("height a k 1/2 0 -1/3")
        self.assertEqual(self.say("bends a h"), "3 3 3")
        self.assertEqual(self.say("bends a k"), "1/6 1/6 1/6")
        self.assertEqual(self.say("cross a h h"), "9")
        self.assertEqual(self.say("cross a h k"), "1/2")
        self.assertEqual(self.say("dots a h"), "-1,-1 0,-1 1,-1 2,-1 -1,0 0,0 1,0 -1,1 0,1 -1,2")
        self.assertEqual(self.say("dots a k"), "-")
        self.ok("height a k 1/2 0 1/3")
        self.assertEqual(self.say("dots a k"), "0,0")
        self.ok("height a h -1 -1 -1")
        self.assertEqual(self.say("dots a h"), "-")
        self.assertEqual(self.say("part a h"), "none")
        self.ok("round b 1,0 0,1 -1,2 0,-1")
        self.ok("height b h 0 1 1 0")
        self.assertEqual(self.say("part b h"), "0 1/2 1 0 / 0 1/2 0 0")
        self.assertEqual(self.say("part a h"), "none")

    def test_kinds(self):
        for kind, rays in enumerate(sixteen()):
            self.ok(f"round a {round_text(led_round(TURNINGS[6], rays))}")
            self.assertEqual(self.say("kind a"), str(kind))

    def test_heights_go(self):
        for row in [f"round a {THREE_TEXT}", "put a 1", "take a 0", "least a a", "least b a"]:
            self.ok("round a 1,0 0,1 -1,1 0,-1")
            self.ok("round b 1,0 0,1 -1,1 0,-1")
            self.ok("put b 0")
            self.ok("take b 1")
            if row == "take a 0":
                self.ok("round a 0,1 -1,1 0,-1 1,0")
            self.ok("height a h 1 1 1 1")
            self.ok("height a k 0 0 0 0")
            self.ok("height b h 1 1 1 1")
            self.ok(row)
            for asked in ["bends a h", "bends a k", "cross a h k", "dots a h", "part a k"]:
                self.refused(Unknown, asked)
            self.assertEqual(self.say("bends b h"), "2 1 2 3")

    def test_heights_stay_where_nothing_is_done_with_the_round(self):
        self.ok("round a 1,0 0,1 -1,1 0,-1")
        self.ok("height a h 1 1 1 1")
        for row in ["show a", "numbers a", "walk a", "alike a a", "bends a h", "dots a h", "kind a", "least a b",
                    "round c 1,0 0,1 -1,-1"]:
            self.say(row)
            self.assertEqual(self.say("bends a h"), "2 1 2 3")

    def test_names_that_are_words_of_rows(self):
        for word in WORDS + ["name", "at", "ok", "none"]:
            self.ok(f"round {word} {THREE_TEXT}")
            self.ok(f"height {word} {word} 1 1 1")
            self.assertEqual(self.say(f"show {word}"), THREE_TEXT)
            self.assertEqual(self.say(f"cross {word} {word} {word}"), "9")
        self.ok("height round height 1 2 3")
        self.assertEqual(self.say("bends round height"), "6 6 6")

    def test_a_height_by_a_name_that_a_round_has(self):
        self.ok(f"round a {THREE_TEXT}")
        self.ok("round b 1,0 0,1 -1,0 0,-1")
        self.ok("height a b 1 1 1")
        self.ok("height a a 2 2 2")
        self.ok("height b a 1 0 1 0")
        self.assertEqual(self.say("bends a b"), "3 3 3")
        self.assertEqual(self.say("bends a a"), "6 6 6")
        self.assertEqual(self.say("bends b a"), "0 2 0 2")
        self.assertEqual(self.say("show b"), "1,0 0,1 -1,0 0,-1")
        self.refused(Unknown, "bends b b")

    def test_two_desks_side_by_side(self):
        other = Desk()
        self.ok(f"round a {THREE_TEXT}")
        self.ok("height a h 1 1 1")
        with self.assertRaises(Unknown):
            other.say("show a")
        self.assertEqual(other.say(f"round a {ROUGH_TEXT}"), "ok")
        self.assertEqual(self.say("show a"), THREE_TEXT)
        self.assertEqual(self.say("bends a h"), "3 3 3")
        self.ok("put a 0")
        self.assertEqual(other.say("show a"), ROUGH_TEXT)

    def test_rounds_kept_by_two_names_go_their_own_ways(self):
        self.ok(f"round a {THREE_TEXT}")
        self.ok("least a b")
        self.ok("put a 0")
        self.assertEqual(self.say("show b"), THREE_TEXT)
        self.ok("height b h 1 1 1")
        self.refused(Unknown, "bends a h")


class Refusals(DeskCase):
    def setUp(self):
        self.desk = Desk()
        self.ok("round a 1,0 0,1 -1,1 0,-1")
        self.ok("height a h 1 1 1 1")
        self.ok("height a low -1 -1 -1 -1")
        self.ok(f"round rough {ROUGH_TEXT}")
        self.asked = ["show a", "show rough", "bends a h", "bends a low", "cross a h low", "numbers a"]
        self.kept = [self.say(row) for row in self.asked]

    def refused(self, error, row):
        super().refused(error, row)
        self.assertEqual([self.desk.say(asked) for asked in self.asked], self.kept)

    def test_no_text(self):
        for thing in NO_PAIRS + [None, 5, True, ["show", "a"], ("show a",), ["show a"]]:
            if not isinstance(thing, str):
                self.refused(NoRow, thing)

    def test_first_words(self):
        for row in ["", " ", "x", "x a", "Show a", "SHOW a", "shows a", "sho a", "say a", "a", "show,a", "show\ta",
                    "show\na", "__init__ a", "dot a h", "kinds a", "NAME", "round_ a", "1"]:
            self.refused(NoRow, row)

    def test_numbers_of_words(self):
        for row in [
            "round", "round a", "height", "height a", "height a h", "least", "least a", "least a b c", "show", "show a a",
            "numbers", "numbers a a", "put", "put a", "put a 0 0", "take", "take a", "take a 1 1", "walk", "walk a a",
            "alike", "alike a", "alike a a a", "bends", "bends a", "bends a h h", "cross", "cross a", "cross a h",
            "cross a h h h", "dots", "dots a", "dots a h h", "part", "part a", "part a h h", "kind", "kind a a",
        ]:
            self.refused(NoRow, row)

    def test_blanks_where_no_round_or_height_is_written(self):
        for row in [
            " show a", "show a ", "show  a", "  show a", "show a  ", "show ", "put  a 0", "put a  0", "put a 0 ",
            "cross a  h h", "round  a 1,0 0,1 -1,-1", "height  a h 1 1 1 1", "height a  h 1 1 1 1", "show  ",
            "  round a 1,0 0,1 -1,-1", " height a h 1 1 1 1", "round ", "round  ", "height ", "height a ", "height a  ",
            "round  a 1,0  0,1 -1,-1", "height a  h 1 1  1 1", "round A 1,0  0,1 -1,-1", "height a H 1 1  1 1",
            "height A h  1 1 1 1",
        ]:
            self.refused(NoRow, row)

    def test_blanks_in_a_round_or_a_height(self):
        for name in ("a", "rough", "nobody"):
            for head, text in [(f"round {name}", THREE_TEXT), (f"height {name} h", "1 1 1 1"), (f"height {name} new", "1/2")]:
                for at, sign in enumerate(text):
                    if sign == " ":
                        for blanks in ("  ", "   "):
                            self.refused(NoText, f"{head} {text[:at]}{blanks}{text[at + 1:]}")
                for spoilt in [f" {text}", f"  {text}", f"{text} ", f"{text}  ", f" {text} ", "", " ", "  "]:
                    self.refused(NoText, f"{head} {spoilt}")
        super().refused(Unknown, "show nobody")
        super().refused(Unknown, "bends a new")

    def test_names(self):
        for name in ["A", "aB", "a1", "1", "a_b", "_", "abcdefghi", "a-b", "-", "a.", "a,", "0", "a" * 60, "~", "\t"]:
            for row in [
                f"round {name} {THREE_TEXT}", f"height {name} h 1 1 1 1", f"height a {name} 1 1 1 1", f"least {name} b",
                f"least a {name}", f"show {name}", f"numbers {name}", f"put {name} 0", f"take {name} 1", f"walk {name}",
                f"alike {name} a", f"alike a {name}", f"bends {name} h", f"bends a {name}", f"cross {name} h h",
                f"cross a {name} h", f"cross a h {name}", f"dots {name} h", f"dots a {name}", f"part {name} h",
                f"part a {name}", f"kind {name}",
            ]:
                self.refused(NoRow, row)

    def test_places(self):
        for at in ["-1", "-0", "+1", "01", "00", "a", "1/1", "1,0", "1.0", "1_0", "-", "1" * 61, "0x1", "--1", "1-"]:
            for word in ("put", "take"):
                self.refused(NoRow, f"{word} a {at}")
                self.refused(NoRow, f"{word} nobody {at}")
        for at in ["4", "5", "10", "1" * 60, "9" * 60]:
            self.refused(NoPlace, f"put a {at}")
            self.refused(NoPlace, f"take a {at}")

    def test_rounds_and_heights_that_are_no_texts(self):
        for text in ["x", "1,0", "1,0 0,1", "1,0 0,1 1,1", "01,0 0,1 -1,-1", "1,0 0,1 -1,-1 x", "1,0 0,1 -1,-1,", "-",
                     "2,0 0,1 -1,-1", "1,0 0,1 -1,0 0,-1 1,0 0,1 -1,0 0,-1", "1,0 0,1 -1," + "1" * 61, "1 0 0 1"]:
            self.refused(NoText, f"round a {text}")
            self.refused(NoText, f"round new {text}")
            super().refused(Unknown, "show new")
        for text in ["x", "2/4 1 1 1", "1 1 1 1/1", "1 1 1 1/0", "1 1 1 -0", "1,0", "-", "1 1 1 " + "1" * 61, "1 1 1 1 +1"]:
            self.refused(NoText, f"height a h {text}")
            self.refused(NoText, f"height a new {text}")
            self.refused(NoText, f"height nobody h {text}")
            self.refused(NoText, f"height rough h {text}")

    def test_names_that_stand_for_nothing(self):
        for row in [
            "height nobody h 1 1 1 1", "height nobody h 1", "least nobody a", "least nobody nobody", "show nobody",
            "numbers nobody", "put nobody 0", "put nobody 99", "take nobody 0", "walk nobody", "alike nobody a",
            "alike a nobody", "bends nobody h", "bends a k", "cross nobody h h", "cross a k h", "cross a h k",
            "dots nobody h", "dots a k", "part nobody h", "part a k", "kind nobody", "show h", "bends rough h",
            "cross rough h h", "dots rough h", "part rough low", "bends h a", "alike rough nobody", "alike nobody nobody",
        ]:
            self.refused(Unknown, row)

    def test_as_the_functions_refuse(self):
        for row in ["numbers rough", "put rough 0", "put rough 99", "take rough 0", "walk rough", "kind rough",
                    "height rough h 1 1 1", "height rough h 1"]:
            self.refused(NotSmooth, row)
        for row in ["height a h 1", "height a h 1 1 1", "height a new 1 1 1 1 1", "height a h 1/2"]:
            self.refused(NoHeight, row)
        self.refused(NoMinus, "take a 0")
        self.refused(NoMinus, "take a 2")
        self.desk.say("round far 1,0 0,1 -1,3 0,-1")
        self.refused(NoOne, "kind far")
        self.desk.say(f"round three {THREE_TEXT}")
        self.refused(NoMinus, "take three 0")
        self.refused(NoPlace, "take three 3")

    def test_the_order_of_refusals(self):
        for error, row in [
            (NoRow, "height A h x"), (NoRow, "height nobody H x"), (NoRow, "height nobody h"), (NoRow, "round A x"),
            (NoText, "height nobody h x"), (NoText, "height rough h 1 x"), (Unknown, "height nobody h 1"),
            (NotSmooth, "height rough h 1"), (NoHeight, "height a h 1"), (NoRow, "put nobody -1"),
            (Unknown, "put nobody 77"), (NotSmooth, "put rough 77"), (NoPlace, "put a 77"), (NoRow, "cross nobody h"),
            (NoRow, "alike nobody B"),
        ]:
            self.refused(error, row)

    def test_answers_of_more_than_sixty_figures(self):
        big = 10 ** 60 - 1
        self.desk.say(f"round big 1,0 0,1 -1,{big} 0,-1")
        self.assertEqual(self.desk.say("show big"), f"1,0 0,1 -1,{big} 0,-1")
        self.desk.say("put big 1")
        self.desk.say("put big 1")
        with self.assertRaises(NoText):
            self.desk.say("show big")
        self.desk.say(f"height a large {big} {big} {big} {big}")
        with self.assertRaises(NoText):
            self.desk.say("bends a large")
        with self.assertRaises(NoText):
            self.desk.say("cross a large large")


class Whole(DeskCase):
    """The promise as a whole, from text to text."""

    def test_least_rounds_come_to_twelve(self):
        for rays in ROUGH + NOT_SMOOTH[::5]:
            self.ok(f"round a {round_text(rays)}")
            self.assertEqual(self.say("show a"), round_text(rays))
            self.ok("least a b")
            told = read_round(self.say("show b"))
            self.assertEqual(told, least_round(rays))
            row = read_row(self.say("numbers b"))
            self.assertEqual(sum(row) + 3 * len(row), 12)
            self.ok("least b c")
            self.assertEqual(read_round(self.say("show c")), told)

    def test_walks_down_and_back(self):
        for rays in GROWN + LONG:
            self.ok(f"round a {round_text(rays)}")
            self.ok(f"round b {round_text(rays)}")
            places, last = self.say("walk a").split(" / ")
            for at in read_row(places):
                self.ok(f"take b {at}")
            self.assertEqual(self.say("show b"), last)
            for at in read_row(places)[::-1]:
                many = len(read_round(self.say("show b")))
                self.ok(f"put b {at - 1 if at else many - 1}")
                if at == 0:
                    # It stands at the end where it stood first: the same round, begun elsewhere.
                    self.ok(f"round b {round_text(begun(read_round(self.say('show b')), many))}")
            self.assertEqual(self.say("show b"), round_text(rays))

    def test_rounds_alike_and_opposites(self):
        for turning in TURNINGS:
            for rays in [THREE] + GROWN[::6] + ROUGH[:6]:
                self.ok(f"round a {round_text(rays)}")
                self.ok(f"round b {round_text(begun(led_round(turning, rays), 1))}")
                self.assertEqual(self.say("alike a b"), "yes")
                self.assertEqual(self.say("alike b a"), "yes")
        for kind, rays in enumerate(sixteen()):
            self.ok(f"round a {round_text(rays)}")
            self.ok(f"round b {round_text(opposite_one(opposite_one(rays)))}")
            self.assertEqual((self.say("kind a"), self.say("kind b"), self.say("alike a b")), (str(kind), str(kind), "yes"))

    def test_dots_as_many_as_the_crossings_tell(self):
        for rays in BODIED[::2] + LED_BODIED[::4]:
            self.ok(f"round a {round_text(rays)}")
            self.ok(f"height a one {height_text([(1, 1)] * len(rays))}")
            for height in outward_heights(rays, "desk")[0]:
                self.ok(f"height a h {height_text(height)}")
                told = self.say("dots a h").split(" ")
                crossed = int(self.say("cross a h h")) + int(self.say("cross a h one"))
                self.assertEqual(2 * (len(told) - 1), crossed)
                self.assertEqual(len(told), dots_by_crossing(rays, height))
                self.assertEqual(self.say("bends a h"), height_text(bends(rays, height)))
                self.assertEqual(self.say("cross a h one"), ratio_text(crossing(rays, height, [(1, 1)] * len(rays))))

    def test_partings(self):
        told = set()
        for rays in BODIED[::2] + LED_BODIED[::4]:
            self.ok(f"round a {round_text(rays)}")
            self.assertEqual(self.say("numbers a"), row_text(numbers(rays)))
            for height in heights_for(rays, "desk"):
                self.ok(f"height a h {height_text(height)}")
                answer = self.say("part a h")
                told.add(answer == "none")
                if answer == "none":
                    self.assertEqual(self.say("dots a h"), "-")
                    continue
                first, stuck = answer.split(" / ")
                self.assertEqual(together(read_height(first), read_height(stuck)), height)
                self.ok(f"height a first {first}")
                self.ok(f"height a stuck {stuck}")
                self.assertEqual(self.say("cross a first stuck"), "0")
                self.assertNotIn("-", self.say("bends a first"))
                self.assertNotIn("-", stuck)
                self.assertEqual(self.say("dots a first"), self.say("dots a h"))
                self.assertEqual(self.say("part a first"), f"{first} / {' '.join(['0'] * len(rays))}")
        self.assertEqual(told, {True, False})

    def test_many_rows_by_chance(self):
        dice = random.Random("rows")
        names = ["a", "b", "round", "h"]
        rounds = {}
        for _ in range(3000):
            name, other = dice.choice(names), dice.choice(names)
            deed = dice.choice(["round", "put", "take", "least", "show"])
            if deed == "round":
                rays = dice.choice([THREE, slanted(2), ROUGH[2], GROWN[3]])
                self.ok(f"round {name} {round_text(rays)}")
                rounds[name] = rays
            elif name not in rounds:
                self.refused(Unknown, {"put": f"put {name} 0", "take": f"take {name} 0", "show": f"show {name}",
                                       "least": f"least {name} {other}"}[deed])
            elif deed == "least":
                self.ok(f"least {name} {other}")
                rounds[other] = least_round(rounds[name])
            elif deed in ("put", "take"):
                at = dice.randrange(6)
                try:
                    self.ok(f"{deed} {name} {at}")
                except (NoPlace, NoMinus, NotSmooth):
                    pass
                else:
                    rays = rounds[name]
                    ray, behind = rays[at], rays[at + 1 - len(rays)]
                    new = [(ray[0] + behind[0], ray[1] + behind[1])] if deed == "put" else []
                    rounds[name] = rays[:at + 1] + new + rays[at + 1:] if new else rays[:at] + rays[at + 1:]
            if name in rounds:
                self.assertEqual(self.say(f"show {name}"), round_text(rounds[name]))


if __name__ == "__main__":
    unittest.main()
