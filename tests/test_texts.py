"""Promise 28: texts of rounds, heights, ratios and rows, and what they tell when they are read."""

import random
import unittest
from fractions import Fraction

from rayround.errors import NoText
from rayround.partings import parting
from rayround.texts import height_text, ratio_text, read_height, read_round, read_row, round_text, row_text
from heighted import broken_height, told_as, whole_height
from made import EVERY, THREE, begun, slanted
from things import NO_PAIRS, deep

SIXTY = 10 ** 60 - 1
NO_TEXTS = [thing for thing in NO_PAIRS if not isinstance(thing, str)] + [
    THREE, [(1, 1)] * 3, ["1"], ("1",), [["1,0"]], deep("1", 5), None, 1, True,
]
# What is no number in any place where a number is written.
NO_NUMBERS = [
    "", "-", "--1", "+1", "+0", "-0", "00", "01", "-01", "007", "1-", "1_0", "1.0", "1e3", "0x1", "a", "O", "1a",
    "a1", "- 1", "1 ", " 1", "1'", "1;", "*", "~", "(1", "[1]", "1" * 61, "-" + "1" * 61, "1" + "0" * 60, "9" * 200,
    "0" * 60, "True", "None", "1" * 5000,
]


class TextCase(unittest.TestCase):
    def assert_no_text(self, read, thing):
        with self.assertRaises(NoText) as caught:
            read(thing)
        self.assertIs(type(caught.exception), NoText)

    def assert_blanks_matter(self, read, text):
        read(text)
        for spoilt in [" " + text, text + " ", "  " + text, text + "\n", "\n" + text, text + "\t", "\t" + text]:
            self.assert_no_text(read, spoilt)
        for at, sign in enumerate(text):
            if sign == " ":
                for other in ("  ", "\t", "\n", "  ,", ", ", " - "):
                    self.assert_no_text(read, text[:at] + other + text[at + 1:])


class Ratios(TextCase):
    def test_written_ones(self):
        for one, text in [
            ((0, 1), "0"), ((7, 1), "7"), ((-7, 1), "-7"), ((1, 2), "1/2"), ((-13, 40), "-13/40"), ((10, 1), "10"),
            ((SIXTY, 1), "9" * 60), ((-SIXTY, 1), "-" + "9" * 60), ((1, SIXTY), "1/" + "9" * 60),
            ((10 ** 59, 1), "1" + "0" * 59),
        ]:
            self.assertEqual(ratio_text(one), text)
            self.assertIs(type(ratio_text(one)), str)
            self.assertEqual(read_height(text), [one])

    def test_more_than_sixty_figures(self):
        for one in [(SIXTY + 1, 1), (-SIXTY - 1, 1), (1, SIXTY + 1), (SIXTY + 2, SIXTY + 1), (10 ** 5000, 1)]:
            self.assert_no_text(ratio_text, one)


class Heights(TextCase):
    def test_written_ones(self):
        self.assertEqual(height_text([(1, 2), (0, 1), (-3, 1)]), "1/2 0 -3")
        self.assertEqual(read_height("1/2 0 -3"), [(1, 2), (0, 1), (-3, 1)])
        self.assertEqual(read_height("5"), [(5, 1)])

    def test_read_again(self):
        dice = random.Random("texts")
        for many in list(range(1, 15)) + [60]:
            for height in [
                whole_height(dice, many), broken_height(dice, many), broken_height(dice, many, SIXTY),
                [told_as(Fraction(dice.randint(-9, 9), 1)) for _ in range(many)],
            ]:
                kept = list(height)
                text = height_text(height)
                self.assertEqual(height, kept)
                self.assertIs(type(text), str)
                self.assertEqual(text, " ".join(str(Fraction(*own)) for own in height))
                told = read_height(text)
                self.assertEqual(told, height)
                self.assertEqual([type(own) for own in told], [tuple] * many)
                self.assertEqual({type(number) for own in told for number in own}, {int})
        for height in parting(slanted(2), [(0, 1), (1, 1), (1, 1), (0, 1)])[1:]:
            self.assertEqual(read_height(height_text(height)), height)

    def test_more_than_sixty_figures(self):
        for at in range(3):
            for own in [(SIXTY + 1, 1), (-(10 ** 70), 1), (1, 10 ** 60)]:
                height = [(1, 2)] * 3
                height[at] = own
                self.assert_no_text(height_text, height)

    def test_what_is_not_written_just_so(self):
        for word in NO_NUMBERS + [
            "2/4", "0/1", "0/2", "1/1", "3/1", "-2/1", "1/0", "0/0", "1/-2", "-1/-2", "1/+2", "1/02", "01/2", "-0/3", "0/3",
            "1/", "/2", "/", "1//2", "1/2/3", "1 /2", "1/ 2", "1,2", "1/2,", "6/3", "9999/3", "1/" + "1" * 61,
            "1" * 61 + "/2",
        ]:
            for text in [word, word + " 1", "1 " + word, "1/2 " + word + " 3"]:
                self.assert_no_text(read_height, text)
        self.assert_blanks_matter(read_height, "1/2 0 -3")

    def test_things_that_are_no_text(self):
        for thing in NO_TEXTS:
            self.assert_no_text(read_height, thing)


class Rounds(TextCase):
    def test_written_ones(self):
        self.assertEqual(round_text(THREE), "1,0 0,1 -1,-1")
        self.assertEqual(read_round("1,0 0,1 -1,-1"), THREE)
        self.assertEqual(read_round("1,0 0,1 -1,-2"), [(1, 0), (0, 1), (-1, -2)])

    def test_read_again(self):
        for rays in EVERY + [begun(THREE, 1)]:
            if max(abs(number) for ray in rays for number in ray) > SIXTY:
                continue
            kept = list(rays)
            text = round_text(rays)
            self.assertEqual(rays, kept)
            self.assertEqual(text, " ".join(f"{x},{y}" for x, y in rays))
            told = read_round(text)
            self.assertEqual(told, rays)
            self.assertIs(type(told), list)
            self.assertEqual({type(ray) for ray in told}, {tuple})
            self.assertEqual({type(number) for ray in told for number in ray}, {int})

    def test_sixty_figures_and_more(self):
        for k, let_by in [(SIXTY, True), (10 ** 59, True), (SIXTY + 1, False), (10 ** 100, False)]:
            rays = [(1, 0), (0, 1), (-1, k), (0, -1)]
            text = f"1,0 0,1 -1,{k} 0,-1"
            if let_by:
                self.assertEqual(round_text(rays), text)
                self.assertEqual(read_round(text), rays)
            else:
                self.assert_no_text(round_text, rays)
                self.assert_no_text(read_round, text)

    def test_what_is_not_written_just_so(self):
        for word in NO_NUMBERS + ["1/1", "0/1", "1/2", "1,"]:
            for text in [f"{word},0 0,1 -1,-1", f"1,{word} 0,1 -1,-1", f"1,0 0,1 -1,{word}", f"1,0 0,1 -1,-1 {word}"]:
                self.assert_no_text(read_round, text)
        for text in [
            "", " ", "-", "1,0", "1,0 0,1", "1,0 0,1 -1,-1,", "1,0,0 0,1 -1,-1", "1 0 0 1 -1 -1", "1,0;0,1;-1,-1",
            "1, 0 0,1 -1,-1", "1,0 0,1 -1 ,-1", "(1,0) (0,1) (-1,-1)", "1,0 0,1 -1,-1 .", ",", ", , ,", "1.0 0,1 -1,-1",
            "1,,0 0,1 -1,-1", "1,0 0,1 -1,-01", "1,-0 0,1 -1,-1", "1,0,0,1,-1,-1",
        ]:
            self.assert_no_text(read_round, text)
        self.assert_blanks_matter(read_round, "1,0 0,1 -1,-1")

    def test_what_is_no_round(self):
        for text in [
            "1,0 0,1 1,1", "1,0 0,1", "2,0 0,1 -1,-1", "1,0 0,1 0,0", "0,1 1,0 -1,-1", "1,0 1,0 0,1 -1,-1",
            "1,0 0,1 -1,0 0,-1 1,0 0,1 -1,0 0,-1", "1,0 -1,0 0,-1",
        ]:
            self.assert_no_text(read_round, text)

    def test_things_that_are_no_text(self):
        for thing in NO_TEXTS:
            self.assert_no_text(read_round, thing)


class Rows(TextCase):
    def test_written_ones(self):
        self.assertEqual(row_text([]), "-")
        self.assertEqual(read_row("-"), [])
        self.assertEqual(row_text([1, 0, -12]), "1 0 -12")
        self.assertEqual(read_row("1 0 -12"), [1, 0, -12])
        self.assertEqual(row_text([0]), "0")

    def test_read_again(self):
        dice = random.Random("rows")
        for many in list(range(15)) + [60]:
            for high in (3, 60, SIXTY):
                row = [dice.randint(-high, high) for _ in range(many)]
                kept = list(row)
                text = row_text(row)
                self.assertEqual(row, kept)
                self.assertIs(type(text), str)
                self.assertEqual(text, " ".join(map(str, row)) or "-")
                told = read_row(text)
                self.assertEqual(told, row)
                self.assertEqual([type(number) for number in told], [int] * many)

    def test_sixty_figures_and_more(self):
        for number in (SIXTY, -SIXTY):
            self.assertEqual(read_row(row_text([number, 1])), [number, 1])
        for number in (SIXTY + 1, -SIXTY - 1, 10 ** 200):
            self.assert_no_text(row_text, [number])
            self.assert_no_text(row_text, [1, number, 2])
            self.assert_no_text(read_row, f"1 {number}")

    def test_what_is_not_written_just_so(self):
        for word in NO_NUMBERS + ["1,0", "1/2", "1/1", "0/1"]:
            for text in ([] if word == "-" else [word]) + [word + " 1", "1 " + word, "1 " + word + " 3"]:
                self.assert_no_text(read_row, text)
        for text in ["- -", " -", "- ", "--", "1 -"]:
            self.assert_no_text(read_row, text)
        self.assert_blanks_matter(read_row, "1 0 -12")

    def test_things_that_are_no_text(self):
        for thing in NO_TEXTS + [["-"], ("-",)]:
            self.assert_no_text(read_row, thing)


class OwnLists(unittest.TestCase):
    def test_what_is_told_is_the_askers_own(self):
        for read, text in [(read_round, "1,0 0,1 -1,-1"), (read_height, "1/2 0"), (read_row, "1 2"), (read_row, "-")]:
            told = read(text)
            kept = list(told)
            told.append(5)
            self.assertEqual(read(text), kept)


if __name__ == "__main__":
    unittest.main()
