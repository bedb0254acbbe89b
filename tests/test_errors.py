"""Points 2 and 3: the error classes and what they store."""

import unittest

from liftsteps import errors
from liftsteps.errors import LiftError

NAMES = [
    "InvalidMatrix", "InvalidChain", "InvalidBox", "InvalidChannel", "InvalidNumber", "InvalidVector",
    "OtherChannels", "NotTwo", "NotTurning", "Singular", "NothingToUndo", "Unreadable",
]
VALUES = [
    None, 0, 1, -1, 7, 10 ** 31, -10 ** 31, 10 ** 400, "", "abc", "a  b", "{x}", (), (1,), (1, (2, "x")),
    ("lift", 0, (0, 1), 0, 1), [], [1, [2, 3]], {"a": 1},
]


def classes():
    return [LiftError] + [getattr(errors, name) for name in NAMES]


class ErrorsTest(unittest.TestCase):

    def test_value_by_position_and_by_name_is_the_argument_itself(self):
        for kind in classes():
            for value in VALUES:
                with self.subTest(kind=kind.__name__, value=repr(value)[:40]):
                    self.assertIs(kind(value).value, value)
                    self.assertIs(kind(value=value).value, value)

    def test_list_is_kept_itself_and_not_changed(self):
        for kind in classes():
            value = [1, [2]]
            error = kind(value)
            value.append(3)
            self.assertIs(error.value, value)
            self.assertEqual(error.value, [1, [2], 3])

    def test_direct_subclasses(self):
        self.assertEqual(LiftError.__bases__, (ValueError,))
        for kind in classes()[1:]:
            self.assertEqual(kind.__bases__, (LiftError,), kind.__name__)

    def test_of_no_other_class_of_the_program(self):
        for kind in classes():
            for value in (None, 5):
                error = kind(value)
                self.assertIsInstance(error, ValueError)
                self.assertIsInstance(error, LiftError)
                fits = [other for other in classes() if isinstance(error, other)]
                self.assertEqual(fits, [LiftError] if kind is LiftError else [LiftError, kind])

    def test_raised_and_caught(self):
        for kind in classes():
            for caught in (kind, LiftError, ValueError):
                try:
                    raise kind("why")
                except caught as error:
                    self.assertIs(error.__class__, kind)
                    self.assertEqual(error.value, "why")

    def test_exactly_one_argument(self):
        for kind in classes():
            with self.assertRaises(TypeError):
                kind()
            with self.assertRaises(TypeError):
                kind(1, 2)
            with self.assertRaises(TypeError):
                kind(1, value=1)
            with self.assertRaises(TypeError):
                kind(other=1)

    def test_no_other_error_classes(self):
        found = [name for name, thing in vars(errors).items() if isinstance(thing, type)]
        self.assertEqual(sorted(found), sorted(["LiftError"] + NAMES))


if __name__ == "__main__":
    unittest.main()
