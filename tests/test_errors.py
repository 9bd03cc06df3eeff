"""Promise 2: the exceptions."""

import unittest

from legion import errors
from legion.errors import (
    BadCommand,
    BadMachine,
    BadProgram,
    BadText,
    LegionError,
    NotPossible,
    OutOfRange,
)

BELOW = [BadText, BadProgram, BadMachine, OutOfRange, NotPossible, BadCommand]


class Errors(unittest.TestCase):
    def test_base_class(self):
        self.assertEqual(LegionError.__bases__, (ValueError,))

    def test_classes_below(self):
        for error in BELOW:
            self.assertEqual(error.__bases__, (LegionError,), error)

    def test_text(self):
        for error in [LegionError] + BELOW:
            for text in ["", "a text", "it's \"so\"\n{}"]:
                self.assertEqual(str(error(text)), text, error)

    def test_caught_as_base(self):
        for error in BELOW:
            with self.assertRaises(LegionError):
                raise error("a text")

    def test_none_is_below_another(self):
        for error in BELOW:
            for other in BELOW:
                self.assertEqual(issubclass(error, other), error is other)

    def test_defined_here(self):
        for error in [LegionError] + BELOW:
            self.assertEqual(error.__module__, "legion.errors")
            self.assertIs(getattr(errors, error.__name__), error)
