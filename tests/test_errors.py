"""The interface of grammarpack/errors.py: the refusals and how they are caught."""

import unittest

from grammarpack import errors
from grammarpack.errors import (
    Circling,
    GrammarError,
    NoGrammar,
    NoNotes,
    NoRule,
    OutOfPlace,
    TooLong,
)

SIX = [NoGrammar, NoRule, Circling, OutOfPlace, TooLong, NoNotes]
NAMES = ["NoGrammar", "NoRule", "Circling", "OutOfPlace", "TooLong", "NoNotes"]


def catches(caught, raised):
    """Whether `except caught` catches the error when it is raised."""
    try:
        raise raised
    except caught as error:
        return error is raised
    except Exception:
        return False


class TheSix(unittest.TestCase):
    def test_each_is_caught_as_itself(self):
        for kind in SIX:
            with self.subTest(kind=kind.__name__):
                self.assertTrue(catches(kind, kind("why")))

    def test_each_is_caught_as_grammar_error(self):
        for kind in SIX:
            with self.subTest(kind=kind.__name__):
                self.assertTrue(catches(GrammarError, kind("why")))

    def test_each_is_caught_as_value_error(self):
        for kind in SIX:
            with self.subTest(kind=kind.__name__):
                self.assertTrue(catches(ValueError, kind("why")))

    def test_none_is_caught_as_another(self):
        for kind in SIX:
            for other in SIX:
                if other is not kind:
                    with self.subTest(kind=kind.__name__, other=other.__name__):
                        self.assertFalse(catches(other, kind("why")))

    def test_each_stands_right_under_grammar_error(self):
        for kind in SIX:
            with self.subTest(kind=kind.__name__):
                self.assertEqual(kind.__bases__, (GrammarError,))

    def test_names_are_those_of_the_interface(self):
        self.assertEqual([kind.__name__ for kind in SIX], NAMES)


class TheCommonOne(unittest.TestCase):
    def test_is_caught_as_itself(self):
        self.assertTrue(catches(GrammarError, GrammarError("why")))

    def test_is_caught_as_value_error(self):
        self.assertTrue(catches(ValueError, GrammarError("why")))

    def test_is_caught_as_none_of_the_six(self):
        for kind in SIX:
            with self.subTest(kind=kind.__name__):
                self.assertFalse(catches(kind, GrammarError("why")))

    def test_stands_right_under_value_error(self):
        self.assertEqual(GrammarError.__bases__, (ValueError,))

    def test_other_value_errors_are_not_caught(self):
        for kind in [GrammarError] + SIX:
            with self.subTest(kind=kind.__name__):
                self.assertFalse(catches(kind, ValueError("why")))


class Words(unittest.TestCase):
    def test_each_may_be_given_words(self):
        for kind in [GrammarError] + SIX:
            with self.subTest(kind=kind.__name__):
                self.assertEqual(str(kind("why")), "why")

    def test_each_may_stand_without_words(self):
        for kind in [GrammarError] + SIX:
            with self.subTest(kind=kind.__name__):
                self.assertTrue(catches(kind, kind()))


class WhereTheyStand(unittest.TestCase):
    def test_all_are_defined_in_their_file(self):
        for kind in [GrammarError] + SIX:
            with self.subTest(kind=kind.__name__):
                self.assertEqual(kind.__module__, "grammarpack.errors")
                self.assertIs(getattr(errors, kind.__name__), kind)


if __name__ == "__main__":
    unittest.main()
