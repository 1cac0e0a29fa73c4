"""The refusals: their names, what they stand under, the values of NoRound."""

import unittest

from rayround import errors
from rayround.errors import (
    NoBend, NoBody, NoFour, NoHeight, NoMinus, NoOne, NoPlace, NoRatio, NoRound, NoRow,
    NotSmooth, NoText, NoTurning, NoWedge, RayError, Unknown,
)

NAMES = [
    "NoRatio", "NoTurning", "NoRound", "NotSmooth", "NoWedge", "NoRow", "NoPlace", "NoMinus",
    "NoFour", "NoHeight", "NoBend", "NoBody", "NoOne", "NoText", "Unknown",
]
CLASSES = [
    NoRatio, NoTurning, NoRound, NotSmooth, NoWedge, NoRow, NoPlace, NoMinus,
    NoFour, NoHeight, NoBend, NoBody, NoOne, NoText, Unknown,
]


def made(kind):
    return kind("ray", 3) if kind is NoRound else kind("words")


def taken_by(error, kind):
    """Whether `except kind` takes the error."""
    try:
        try:
            raise error
        except kind:
            return True
    except Exception:
        return False


class Errors(unittest.TestCase):
    def test_each_class_stands_under_its_name(self):
        for name, kind in zip(NAMES, CLASSES, strict=True):
            self.assertIs(getattr(errors, name), kind)
            self.assertEqual(kind.__name__, name)

    def test_ray_error_stands_straight_under_value_error(self):
        self.assertEqual(RayError.__bases__, (ValueError,))
        self.assertTrue(taken_by(RayError("words"), ValueError))

    def test_each_stands_straight_under_ray_error(self):
        for kind in CLASSES:
            self.assertEqual(kind.__bases__, (RayError,), kind)

    def test_each_is_taken_as_ray_error_and_as_value_error(self):
        for kind in CLASSES:
            self.assertTrue(taken_by(made(kind), RayError), kind)
            self.assertTrue(taken_by(made(kind), ValueError), kind)

    def test_none_is_taken_by_the_name_of_another(self):
        for kind in CLASSES:
            for other in CLASSES:
                self.assertIs(taken_by(made(kind), other), kind is other, (kind, other))

    def test_a_bare_ray_error_is_taken_by_none_of_the_others(self):
        for kind in CLASSES:
            self.assertFalse(taken_by(RayError("words"), kind))

    def test_each_bears_words(self):
        for kind in CLASSES:
            self.assertNotEqual(str(made(kind)), "")


class NoRoundValues(unittest.TestCase):
    def test_the_values_are_set_when_it_is_made(self):
        for where, at in [("round", 0), ("ray", 0), ("ray", 7), ("wedge", 12), ("turns", 0)]:
            error = NoRound(where, at)
            self.assertEqual((error.where, error.at), (where, at))
            self.assertIs(type(error.where), str)
            self.assertIs(type(error.at), int)

    def test_the_values_are_there_when_it_is_taken(self):
        with self.assertRaises(NoRound) as taken:
            raise NoRound("wedge", 2)
        self.assertEqual((taken.exception.where, taken.exception.at), ("wedge", 2))

    def test_two_of_them_keep_their_own_values(self):
        one, other = NoRound("ray", 1), NoRound("wedge", 2)
        self.assertEqual((one.where, one.at, other.where, other.at), ("ray", 1, "wedge", 2))


if __name__ == "__main__":
    unittest.main()
