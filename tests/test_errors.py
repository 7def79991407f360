"""The errors [0.21]."""

import unittest

from wholemoment import errors

PLAIN = (
    "InvalidValue", "InvalidKey", "InvalidDeed", "InvalidQuestion", "InvalidCourse", "InvalidInstant", "InvalidCopy",
    "InvalidView", "InvalidWorld", "InvalidDisk", "InvalidBlock", "InvalidRecord", "InvalidLetter", "InvalidBook",
    "InvalidSetup", "InvalidMachine", "InvalidEvent", "InvalidSystem", "InvalidOperation",
)
KEEPING = (
    ("ParseError", "spot", errors.MomentError), ("InvalidNumber", "given", IndexError),
    ("UnknownName", "wanted", KeyError), ("NothingToUndo", "wanted", LookupError),
    ("TooMany", "limit", OverflowError), ("Refused", "reason", ArithmeticError),
)


class ErrorsTest(unittest.TestCase):
    def test_bases(self):
        self.assertEqual(errors.MomentError.__bases__, (ValueError,))
        for name in PLAIN:
            self.assertEqual(getattr(errors, name).__bases__, (errors.MomentError,), name)
        for name, _, base in KEEPING:
            self.assertEqual(getattr(errors, name).__bases__, (base,), name)

    def test_all_are_defined_there(self):
        for name in PLAIN + ("MomentError",) + tuple([row[0] for row in KEEPING]):
            self.assertEqual(getattr(errors, name).__module__, "wholemoment.errors")

    def test_those_with_a_message_take_one(self):
        for name in PLAIN + ("MomentError",):
            self.assertEqual(str(getattr(errors, name)("why it is so")), "why it is so")

    def test_those_that_keep_something_keep_any_value(self):
        for name, attribute, _ in KEEPING:
            for value in (None, 0, True, -5, "text", (1, "a"), [1], {"a": 1}, 10 ** 100, ("straight",)):
                error = getattr(errors, name)(value)
                self.assertIs(getattr(error, attribute), value)
                self.assertIsInstance(str(error), str)


if __name__ == "__main__":
    unittest.main()
