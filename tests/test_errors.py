"""Tests of fallways/errors.py: promises [4] and [40]."""

import inspect
import unittest

from fallways import errors
from fallways.errors import FallError, Held

PARAMETERS = {
    "BadName": "name",
    "BadValue": "value",
    "BadLimit": "limit",
    "NoPage": "name",
    "NoMoment": "moment",
    "BadFall": "fall",
    "BadGuard": "step",
    "BadPlace": "place",
    "NotTruth": "value",
}


class Unwritable:
    """An object that can be neither written out, nor compared, nor looked up."""

    __hash__ = None

    def __repr__(self):
        raise RuntimeError("not to be written out")

    __str__ = __repr__

    def __eq__(self, other):
        raise RuntimeError("not to be compared")


OBJECTS = [
    0, 1, -7, True, False, None, 10 ** 5000, -(10 ** 5000), "", "a", "{}", "\n", b"a", 1.5,
    float("nan"), (), (1, ("b", None)), (10 ** 5000,), [], [1, [2]], {"a": 1}, {1, 2},
    object(), Unwritable(), ValueError("x"), len, int, Held,
]


class ErrorsWithAParameter(unittest.TestCase):
    def test_attribute_is_the_very_object(self):
        for word, parameter in PARAMETERS.items():
            kind = getattr(errors, word)
            for thing in OBJECTS:
                by_place = kind(thing)
                by_name = kind(**{parameter: thing})
                self.assertIs(getattr(by_place, parameter), thing)
                self.assertIs(getattr(by_name, parameter), thing)

    def test_can_be_shown_whatever_they_hold(self):
        for word in PARAMETERS:
            for thing in OBJECTS:
                error = getattr(errors, word)(thing)
                self.assertIsInstance(str(error), str)
                self.assertIsInstance(repr(error), str)

    def test_can_be_raised_and_caught(self):
        for word, parameter in PARAMETERS.items():
            kind = getattr(errors, word)
            thing = [word]
            for base in (kind, FallError, ValueError):
                with self.assertRaises(base) as caught:
                    raise kind(thing)
                self.assertIs(getattr(caught.exception, parameter), thing)

    def test_take_just_one_object_of_that_name(self):
        for word, parameter in PARAMETERS.items():
            kind = getattr(errors, word)
            self.assertEqual(list(inspect.signature(kind).parameters), [parameter])
            self.assertRaises(TypeError, kind)
            self.assertRaises(TypeError, kind, 1, 2)
            self.assertRaises(TypeError, kind, other=1)

    def test_two_errors_hold_what_each_was_made_with(self):
        for word, parameter in PARAMETERS.items():
            kind = getattr(errors, word)
            first, second = kind("a"), kind("b")
            self.assertEqual(getattr(first, parameter), "a")
            self.assertEqual(getattr(second, parameter), "b")


class ErrorsWithoutParameters(unittest.TestCase):
    def test_are_made_of_nothing(self):
        for kind in (errors.Beyond, errors.Held):
            self.assertIsInstance(kind(), kind)
            self.assertEqual(vars(kind()), {})
            self.assertRaises(TypeError, kind, 1)
            self.assertRaises(TypeError, kind, value=1)
            self.assertIsInstance(str(kind()), str)


class Family(unittest.TestCase):
    def test_fall_error_is_directly_a_value_error(self):
        self.assertEqual(FallError.__bases__, (ValueError,))

    def test_errors_are_directly_under_fall_error(self):
        for word in [*PARAMETERS, "Beyond"]:
            self.assertEqual(getattr(errors, word).__bases__, (FallError,))

    def test_held_stands_beside_them(self):
        self.assertEqual(Held.__bases__, (Exception,))
        self.assertNotIsInstance(Held(), FallError)
        self.assertNotIsInstance(Held(), ValueError)

    def test_there_are_no_others_and_each_is_defined_in_its_file(self):
        found = [word for word, thing in vars(errors).items() if inspect.isclass(thing)]
        self.assertEqual(sorted(found), sorted([*PARAMETERS, "Beyond", "FallError", "Held"]))
        for word in found:
            self.assertEqual(getattr(errors, word).__module__, "fallways.errors")


if __name__ == "__main__":
    unittest.main()
