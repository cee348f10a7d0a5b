"""[2], [3], [14]: the classes of errors."""

import inspect
import unittest

from valuesmoved import errors
from valuesmoved.errors import MoveError

FIELDS = {
    "InvalidNow": "index", "InvalidWish": "index", "InvalidRow": "index", "InvalidTicks": "index",
    "InvalidSources": "index", "InvalidText": "place", "Missing": "value", "HeldTwice": "value", "Lost": "value",
    "TooLarge": "limit",
}
PLAIN = ["InvalidKinds", "InvalidOrder", "InvalidCell", "InvalidNumber", "InvalidKept", "InvalidCommand", "NoMoves",
         "NoSwaps", "NotIdle", "NothingToUndo"]


class ErrorsTest(unittest.TestCase):
    def test_base(self):
        self.assertEqual(MoveError.__bases__, (ValueError,))
        self.assertIsInstance(MoveError("a"), ValueError)

    def test_each_stands_directly_under_the_base(self):
        for name in [*FIELDS, *PLAIN]:
            with self.subTest(name=name):
                self.assertEqual(getattr(errors, name).__bases__, (MoveError,))

    def test_nothing_else_is_there(self):
        found = [name for name, value in vars(errors).items() if inspect.isclass(value)]
        self.assertEqual(sorted(found), sorted([*FIELDS, *PLAIN, "MoveError"]))
        for name in found:
            self.assertEqual(getattr(errors, name).__module__, "valuesmoved.errors")

    def test_fields(self):
        for name, field in FIELDS.items():
            for value in (None, 0, 7, -(10 ** 30)):
                with self.subTest(name=name, value=value):
                    made = getattr(errors, name)
                    self.assertEqual(vars(made(value)), {field: value})
                    self.assertEqual(vars(made(**{field: value})), {field: value})

    def test_fields_are_needed(self):
        for name in FIELDS:
            with self.subTest(name=name):
                self.assertRaises(TypeError, getattr(errors, name))
                self.assertRaises(TypeError, getattr(errors, name), 1, 2)

    def test_the_others_take_one_string(self):
        for name in [*PLAIN, "MoveError"]:
            with self.subTest(name=name):
                raised = getattr(errors, name)("so it is")
                self.assertEqual(str(raised), "so it is")
                self.assertEqual(raised.args, ("so it is",))

    def test_they_can_be_caught_as_the_base(self):
        for name in [*FIELDS, *PLAIN]:
            with self.subTest(name=name), self.assertRaises(MoveError):
                raise getattr(errors, name)("a")


if __name__ == "__main__":
    unittest.main()
