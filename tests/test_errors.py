"""The refusals: their classes, and that each is caught by its own, LiltError and ValueError alone."""

import unittest

from lilt import errors
from lilt.tongues import Tongue
from lilt.words import options_of, syllables_of, units_of

WITH_AT = ("NoRule", "NoMetre", "NoForm")
WITHOUT_AT = ("NoWord", "NoReading", "NoName", "NoRow")
CLASSES = WITH_AT + WITHOUT_AT


def refused(call, *given):
    """The refusal that a call ends with."""
    try:
        call(*given)
    except errors.LiltError as error:
        return error
    raise AssertionError("nothing was refused")


def kept(error):
    """The names of those classes that would catch an error."""
    return [name for name in CLASSES if isinstance(error, getattr(errors, name))]


class ErrorClasses(unittest.TestCase):
    def test_any_refusal_is_a_value_error(self):
        self.assertTrue(issubclass(errors.LiltError, ValueError))

    def test_each_class_stands_under_lilt_error_and_no_other(self):
        for name in CLASSES:
            with self.subTest(name):
                one = getattr(errors, name)
                under = [other for other in CLASSES if issubclass(one, getattr(errors, other))]
                self.assertTrue(issubclass(one, errors.LiltError))
                self.assertEqual(under, [name])

    def test_lilt_error_stands_under_none_of_them(self):
        for name in CLASSES:
            self.assertFalse(issubclass(errors.LiltError, getattr(errors, name)))

    def test_the_field_at_is_set_when_it_is_made(self):
        for name in WITH_AT:
            with self.subTest(name):
                self.assertEqual(getattr(errors, name)(7).at, 7)

    def test_the_others_are_made_of_words(self):
        for name in WITHOUT_AT:
            with self.subTest(name):
                self.assertEqual(str(getattr(errors, name)("why not")), "why not")


class Refusals(unittest.TestCase):
    def test_a_tongue_is_refused_by_no_rule_alone(self):
        error = refused(Tongue, ["carry a", "carry A"])
        self.assertEqual(kept(error), ["NoRule"])
        self.assertIsInstance(error, ValueError)
        self.assertEqual(error.at, 1)

    def test_a_word_is_refused_by_no_word_alone(self):
        tongue = Tongue(["carry a"])
        calls = ((units_of, "t"), (syllables_of, "t"), (options_of, "t", None), (options_of, "a", "t"))
        for call in calls:
            with self.subTest(call=call):
                error = refused(call[0], tongue, *call[1:])
                self.assertEqual(kept(error), ["NoWord"])
                self.assertIsInstance(error, ValueError)


if __name__ == "__main__":
    unittest.main()
