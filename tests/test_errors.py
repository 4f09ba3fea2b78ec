"""Errors [0.23], and the names and arguments of the interface."""

import unittest

from tests.helper import STRAYS, Case
from tiedanew import errors

WITH_MESSAGE = (
    "InvalidBits", "InvalidWeb", "InvalidLot", "InvalidRing", "InvalidMarks", "InvalidSteps", "InvalidMember",
    "InvalidString", "InvalidTour", "InvalidText", "InvalidClaim", "InvalidOperation")
KEEPING = (
    ("ParseError", "spot", errors.WebError), ("InvalidNumber", "given", IndexError),
    ("UnknownName", "wanted", LookupError), ("NothingToUndo", "done", LookupError),
    ("TooMany", "limit", OverflowError), ("Refused", "reason", ArithmeticError))


class Errors(Case):

    def test_web_error(self):
        self.assertEqual(errors.WebError.__bases__, (ValueError,))
        self.assertEqual(str(errors.WebError("some words")), "some words")

    def test_those_with_a_message(self):
        for name in WITH_MESSAGE:
            error = getattr(errors, name)
            self.assertEqual(error.__name__, name)
            self.assertEqual(error.__bases__, (errors.WebError,), name)
            with self.assertRaises(errors.WebError) as caught:
                raise error("some words")
            self.assertEqual(str(caught.exception), "some words")

    def test_those_that_keep_what_they_take(self):
        for name, attribute, base in KEEPING:
            error = getattr(errors, name)
            self.assertEqual(error.__name__, name)
            self.assertEqual(error.__bases__, (base,), name)
            for value in STRAYS + (("untied",), error):
                with self.assertRaises(base) as caught:
                    raise error(value)
                self.assertIs(getattr(caught.exception, attribute), value)

    def test_parameters_have_the_names_of_the_attributes(self):
        for name, attribute, _ in KEEPING:
            error = getattr(errors, name)(**{attribute: ("word", 3)})
            self.assertEqual(getattr(error, attribute), ("word", 3))

    def test_all_are_defined_there(self):
        for name in WITH_MESSAGE + tuple(row[0] for row in KEEPING) + ("WebError",):
            self.assertEqual(getattr(errors, name).__module__, "tiedanew.errors")


if __name__ == "__main__":
    unittest.main()
