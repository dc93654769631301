"""Points [2], [7] and [8]: what parts take, what is begun and in which order, entries."""

import unittest

from grammarpack import reading
from grammarpack.errors import NoRule, OutOfPlace
from grammarpack.grammars import Grammar
from grammarpack.reading import Reading, plainly
from tests.making import A, ANY, B, EMPTY, SIGNS, choice, many, none_of, row, rule

# Rules that parts below ask: a, b, c take that sign, e takes nothing, m takes every a,
# n takes no sign and fits nowhere, t takes two signs.
REST = [("a", A), ("b", B), ("c", ("sign", "c")), ("e", EMPTY), ("m", many(A)),
        ("n", none_of(EMPTY)), ("t", row(ANY, ANY))]


def reading_of(part, text):
    return Reading(Grammar([("x", part)] + REST), text)


class Case(unittest.TestCase):
    def ends(self, part, text, wanted):
        """Where x ends, at each place of the text."""
        with self.subTest(part=part, text=text):
            one = reading_of(part, text)
            told = [one.read("x", place) for place in range(len(text) + 1)]
            self.assertEqual(told, wanted)
            # Without what is kept of the places ahead it is the same.
            self.assertEqual([reading_of(part, text).read("x", place) for place in range(len(text) + 1)], wanted)

    def kids(self, part, text, wanted_end, wanted_kids):
        """What is told of x at the first place."""
        with self.subTest(part=part, text=text):
            one = reading_of(part, text)
            self.assertEqual(one.read("x", 0), wanted_end)
            self.assertEqual(one.entries()[0], ("x", 0, wanted_end, wanted_kids))

    def asks(self, part, text, wanted):
        """What is begun when x is asked at the first place, x itself left out."""
        with self.subTest(part=part, text=text):
            one = reading_of(part, text)
            one.read("x", 0)
            self.assertEqual(one.begun(), [("x", 0)] + wanted)


class TheInterface(unittest.TestCase):
    def test_is_defined_in_its_file(self):
        self.assertEqual(Reading.__module__, "grammarpack.reading")
        self.assertEqual(plainly.__module__, "grammarpack.reading")
        self.assertIs(reading.Reading, Reading)

    def test_methods_are_the_classes_own(self):
        for name in ["read", "tree", "begun", "entries"]:
            self.assertIn(name, Reading.__dict__)

    def test_may_be_passed_by_name(self):
        one = Reading(grammar=Grammar([("a", A)]), text="a")
        self.assertEqual(one.read(name="a", place=0), 1)
        self.assertEqual(one.tree(name="a", place=0), [(0, "a", 0, 1)])
        told = plainly(grammar=Grammar([("a", A)]), text="a", name="a", place=0, most=9)
        self.assertEqual(told, [(0, "a", 0, 1)])


class PartsOfOneSign(Case):
    def test_sign(self):
        self.ends(A, "aba", [1, None, 3, None])
        for sign in SIGNS:
            self.ends(("sign", sign), sign, [1, None])
            self.ends(("sign", sign), "q" if sign != "q" else "p", [None, None])

    def test_span(self):
        self.ends(("span", "b", "d"), "abcde", [None, 2, 3, 4, None, None])
        self.ends(("span", "\n", " "), "\t\n !", [None, 2, 3, None, None])

    def test_any(self):
        self.ends(ANY, "a~ \t\n", [1, 2, 3, 4, 5, None])

    def test_nothing_at_the_end(self):
        for part in [A, ("span", "\t", "~"), ANY]:
            self.ends(part, "", [None])


class Rows(Case):
    def test_empty(self):
        self.ends(EMPTY, "ab", [0, 1, 2])
        self.ends(EMPTY, "", [0])

    def test_one_behind_the_other(self):
        self.ends(row(A), "ab", [1, None, None])
        self.ends(row(A, B), "abab", [2, None, 4, None, None])
        self.ends(row(A, ANY, B), "aabb", [3, 4, None, None, None])
        self.ends(row(A, EMPTY, B), "ab", [2, None, None])

    def test_all_must_fit(self):
        self.ends(row(A, B), "aab", [None, 3, None, None])
        self.ends(row(A, B), "a", [None, None])
        self.ends(row(B, A), "ab", [None, None, None])

    def test_rows_in_rows(self):
        self.ends(row(row(A, row()), row(row(B), A)), "abab", [3, None, None, None, None])


class Choices(Case):
    def test_the_first_that_fits(self):
        self.ends(choice(A, B), "abc", [1, 2, None, None])
        self.ends(choice(A, row(A, B)), "ab", [1, None, None])
        self.ends(choice(row(A, B), A), "aab", [1, 3, None, None])
        self.ends(choice(EMPTY, A), "a", [0, 1])
        self.ends(choice(A, EMPTY), "ab", [1, 1, 2])

    def test_of_one(self):
        self.ends(choice(A), "ab", [1, None, None])

    def test_the_last_may_fit(self):
        self.ends(choice(A, A, A, B), "ba", [1, 2, None])

    def test_no_going_back(self):
        self.ends(row(choice(A, row(A, B)), ("sign", "c")), "abc", [None, None, None, None])
        self.ends(row(choice(row(A, B), A), ("sign", "c")), "abc", [3, None, None, None])
        self.ends(row(choice(EMPTY, A), B), "ab", [None, 2, None])


class Turns(Case):
    def test_as_long_as_it_fits(self):
        self.ends(many(A), "aabaa", [2, 2, 2, 5, 5, 5])
        self.ends(many(ANY), "abc", [3, 3, 3, 3])
        self.ends(many(row(A, B)), "ababa", [4, 1, 4, 3, 4, 5])

    def test_fits_without_any_turn(self):
        self.ends(many(A), "", [0])
        self.ends(many(A), "b", [0, 1])

    def test_no_going_back(self):
        self.ends(row(many(A), A), "aaa", [None, None, None, None])
        self.ends(row(many(ANY), EMPTY), "ab", [2, 2, 2])
        self.ends(row(many(A), B), "aab", [3, 3, 3, None])

    def test_a_turn_that_takes_no_sign_ends_it(self):
        self.ends(many(EMPTY), "aa", [0, 1, 2])
        self.ends(many(many(A)), "aab", [2, 2, 2, 3])
        self.ends(many(choice(A, EMPTY)), "aab", [2, 2, 2, 3])
        self.ends(many(choice(EMPTY, A)), "aa", [0, 1, 2])
        self.ends(many(none_of(A)), "ab", [0, 1, 2])
        self.ends(many(rule("m")), "aab", [2, 2, 2, 3])
        self.ends(many(many(many(EMPTY))), "a", [0, 1])

    def test_a_turn_that_does_not_fit_takes_nothing(self):
        self.ends(many(row(A, A)), "aaa", [2, 3, 2, 3])


class Nots(Case):
    def test_fits_where_the_part_does_not(self):
        self.ends(none_of(A), "ab", [None, 1, 2])
        self.ends(none_of(EMPTY), "a", [None, None])
        self.ends(none_of(row(A, B)), "aab", [0, None, 2, 3])

    def test_takes_nothing(self):
        self.ends(row(none_of(A), ANY), "ab", [None, 2, None])
        self.ends(row(none_of(none_of(A)), A), "ab", [1, None, None])

    def test_twice(self):
        self.ends(none_of(none_of(A)), "ab", [0, None, None])

    def test_tells_the_end(self):
        self.ends(row(many(A), none_of(ANY)), "baa", [None, 3, 3, 3])


class RulesWithin(Case):
    def test_takes_what_that_rule_does(self):
        self.ends(rule("t"), "abc", [2, 3, None, None])
        self.ends(rule("m"), "aab", [2, 2, 2, 3])
        self.ends(rule("e"), "a", [0, 1])
        self.ends(rule("n"), "a", [None, None])

    def test_that_asks_itself(self):
        pairs = Grammar([("p", choice(row(A, rule("p"), B), EMPTY))])
        for text, wanted in [("", 0), ("ab", 2), ("aabb", 4), ("aab", 0), ("abb", 2), ("ba", 0)]:
            with self.subTest(text=text):
                self.assertEqual(Reading(pairs, text).read("p", 0), wanted)

    def test_many_rules_together(self):
        figure = ("span", "0", "9")
        rules = [
            ("sum", row(rule("term"), many(row(choice(("sign", "+"), ("sign", "-")), rule("term"))))),
            ("term", row(rule("one"), many(row(("sign", "*"), rule("one"))))),
            ("one", choice(rule("number"), row(("sign", "("), rule("sum"), ("sign", ")")))),
            ("number", row(figure, many(figure))),
        ]
        for text, wanted in [("1", 1), ("12+3*(4-5)", 10), ("1+", 1), ("(1+2", None), ("", None), ("2*(3)7", 5)]:
            with self.subTest(text=text):
                self.assertEqual(Reading(Grammar(rules), text).read("sum", 0), wanted)


class WhatIsBegun(Case):
    """Point [7]."""

    def test_nothing_ahead_of_the_first_question(self):
        one = reading_of(row(rule("a"), rule("b")), "ab")
        self.assertEqual(one.begun(), [])
        self.assertEqual(one.entries(), [])

    def test_kinds_of_what_is_told(self):
        one = reading_of(rule("a"), "ab")
        one.read("x", 0)
        self.assertIsInstance(one.begun(), list)
        self.assertIsInstance(one.begun()[0], tuple)
        self.assertIsInstance(one.entries(), list)
        self.assertIsInstance(one.entries()[0], tuple)
        self.assertIsInstance(one.entries()[0][3], list)
        self.assertIsInstance(one.entries()[0][3][0], tuple)

    def test_rule_itself_first(self):
        self.asks(A, "a", [])
        self.asks(rule("a"), "a", [("a", 0)])
        self.asks(rule("a"), "b", [("a", 0)])

    def test_nothing_behind_what_does_not_fit_in_a_row(self):
        self.asks(row(rule("a"), rule("b"), rule("c")), "abc", [("a", 0), ("b", 1), ("c", 2)])
        self.asks(row(rule("a"), rule("b"), rule("c")), "acc", [("a", 0), ("b", 1)])
        self.asks(row(rule("a"), rule("b"), rule("c")), "b", [("a", 0)])
        self.asks(row(B, rule("a")), "a", [])
        self.asks(row(row(rule("a"), B), rule("c")), "ac", [("a", 0)])
        self.asks(row(none_of(rule("a")), rule("c")), "a", [("a", 0)])

    def test_nothing_behind_what_fits_in_a_choice(self):
        self.asks(choice(rule("a"), rule("b"), rule("c")), "a", [("a", 0)])
        self.asks(choice(rule("a"), rule("b"), rule("c")), "b", [("a", 0), ("b", 0)])
        self.asks(choice(rule("a"), rule("b"), rule("c")), "c", [("a", 0), ("b", 0), ("c", 0)])
        self.asks(choice(rule("a"), rule("b"), rule("c")), "d", [("a", 0), ("b", 0), ("c", 0)])
        self.asks(choice(EMPTY, rule("a")), "a", [])
        self.asks(choice(row(rule("a"), rule("b")), rule("c")), "ac", [("a", 0), ("b", 1), ("c", 0)])

    def test_turns(self):
        self.asks(many(rule("a")), "aab", [("a", 0), ("a", 1), ("a", 2)])
        self.asks(many(rule("a")), "aa", [("a", 0), ("a", 1), ("a", 2)])
        self.asks(many(rule("e")), "aa", [("e", 0)])
        self.asks(row(many(rule("a")), rule("b")), "ab", [("a", 0), ("a", 1), ("b", 1)])
        self.asks(many(row(rule("a"), rule("b"))), "aba", [("a", 0), ("b", 1), ("a", 2), ("b", 3)])
        self.asks(row(many(row(rule("e"), rule("m"))), rule("c")), "aac",
                  [("e", 0), ("m", 0), ("e", 2), ("m", 2), ("c", 2)])

    def test_within_not(self):
        self.asks(none_of(rule("a")), "a", [("a", 0)])
        self.asks(row(none_of(rule("b")), rule("a")), "a", [("b", 0), ("a", 0)])

    def test_within_rules_ahead_of_what_stands_behind(self):
        rules = [("x", row(rule("y"), rule("z"))), ("y", row(rule("z"), rule("w"))), ("z", A), ("w", B)]
        one = Reading(Grammar(rules), "aba")
        self.assertEqual(one.read("x", 0), 3)
        self.assertEqual(one.begun(), [("x", 0), ("y", 0), ("z", 0), ("w", 1), ("z", 2)])

    def test_none_twice_at_one_place(self):
        self.asks(choice(row(rule("a"), rule("b")), row(rule("a"), rule("c"))), "ac", [("a", 0), ("b", 1), ("c", 1)])
        self.asks(row(none_of(rule("b")), none_of(rule("b")), rule("a")), "a", [("b", 0), ("a", 0)])
        self.asks(row(rule("e"), rule("e"), rule("m"), rule("m"), rule("m")), "aa", [("e", 0), ("m", 0), ("m", 2)])

    def test_the_same_by_way_of_another_rule(self):
        rules = [("x", choice(row(rule("y"), B), rule("z"))), ("y", row(rule("z"), rule("z"))), ("z", A)]
        one = Reading(Grammar(rules), "aac")
        self.assertEqual(one.read("x", 0), 1)
        self.assertEqual(one.begun(), [("x", 0), ("y", 0), ("z", 0), ("z", 1)])

    def test_kept_for_as_long_as_the_reading_is_used(self):
        one = reading_of(row(rule("a"), rule("b")), "abab")
        self.assertEqual(one.read("b", 1), 2)
        self.assertEqual(one.begun(), [("b", 1)])
        self.assertEqual(one.read("x", 0), 2)
        self.assertEqual(one.begun(), [("b", 1), ("x", 0), ("a", 0)])
        for _ in range(2):
            self.assertEqual(one.read("x", 0), 2)
            self.assertEqual(one.read("a", 0), 1)
            self.assertEqual(one.tree("x", 0), [(0, "x", 0, 2), (1, "a", 0, 1), (1, "b", 1, 2)])
            self.assertEqual(len(one.begun()), 3)
        self.assertIsNone(one.read("a", 1))
        self.assertIsNone(one.read("x", 1))
        self.assertIsNone(one.tree("x", 1))
        self.assertEqual(one.begun(), [("b", 1), ("x", 0), ("a", 0), ("a", 1), ("x", 1)])

    def test_a_tree_begins_what_was_not_begun(self):
        one = reading_of(row(rule("a"), rule("b")), "ab")
        one.tree("x", 0)
        self.assertEqual(one.begun(), [("x", 0), ("a", 0), ("b", 1)])

    def test_asking_for_what_was_begun_begins_nothing(self):
        one = reading_of(row(rule("a"), rule("b")), "ab")
        one.read("x", 0)
        for _ in range(2):
            one.begun()
            one.entries()
        self.assertEqual(len(one.begun()), 3)

    def test_readings_are_apart(self):
        grammar = Grammar([("x", row(rule("a"), rule("b")))] + REST)
        one, two = Reading(grammar, "ab"), Reading(grammar, "ba")
        self.assertEqual(one.read("x", 0), 2)
        self.assertEqual(two.begun(), [])
        self.assertIsNone(two.read("x", 0))
        self.assertEqual(two.begun(), [("x", 0), ("a", 0)])
        self.assertEqual(one.begun(), [("x", 0), ("a", 0), ("b", 1)])


class Entries(Case):
    """Point [8]."""

    def test_in_the_order_in_which_they_were_begun(self):
        one = reading_of(choice(row(rule("a"), rule("b")), row(rule("a"), rule("t"))), "acb")
        self.assertEqual(one.read("x", 0), 3)
        self.assertEqual(one.entries(), [
            ("x", 0, 3, [("a", 0), ("t", 1)]),
            ("a", 0, 1, []),
            ("b", 1, None, []),
            ("t", 1, 3, []),
        ])
        self.assertEqual([entry[:2] for entry in one.entries()], one.begun())

    def test_of_several_questions(self):
        one = reading_of(rule("a"), "ba")
        one.read("a", 1)
        one.read("x", 0)
        one.read("x", 1)
        self.assertEqual(one.entries(), [
            ("a", 1, 2, []),
            ("x", 0, None, []),
            ("a", 0, None, []),
            ("x", 1, 2, [("a", 1)]),
        ])

    def test_not_those_further_within(self):
        rules = [("x", row(rule("y"), rule("z"))), ("y", row(rule("z"), rule("w"))), ("z", A), ("w", B)]
        one = Reading(Grammar(rules), "aba")
        one.read("x", 0)
        self.assertEqual(one.entries(), [
            ("x", 0, 3, [("y", 0), ("z", 2)]),
            ("y", 0, 2, [("z", 0), ("w", 1)]),
            ("z", 0, 1, []),
            ("w", 1, 2, []),
            ("z", 2, 3, []),
        ])

    def test_rows(self):
        self.kids(row(rule("a"), rule("b")), "ab", 2, [("a", 0), ("b", 1)])
        self.kids(row(rule("a"), B, rule("c")), "abc", 3, [("a", 0), ("c", 2)])
        self.kids(row(rule("e"), rule("e"), rule("m"), rule("m")), "aa", 2, [("e", 0), ("e", 0), ("m", 0), ("m", 2)])

    def test_none_where_it_does_not_fit(self):
        self.kids(row(rule("a"), rule("b"), rule("c")), "abd", None, [])
        self.kids(row(rule("a"), row(rule("b"), rule("b"))), "aba", None, [])
        self.kids(row(many(rule("a")), rule("b")), "aaa", None, [])
        self.kids(choice(row(rule("a"), rule("b")), row(rule("a"), rule("c"))), "aa", None, [])
        self.kids(row(rule("a"), none_of(rule("b"))), "ab", None, [])
        self.kids(row(choice(rule("b"), rule("a")), B), "aa", None, [])

    def test_just_the_way_that_was_taken(self):
        self.kids(choice(row(rule("a"), rule("b")), row(rule("a"), rule("c"))), "ac", 2, [("a", 0), ("c", 1)])
        self.kids(choice(row(rule("a"), rule("b")), rule("t")), "ac", 2, [("t", 0)])
        self.kids(choice(row(rule("a"), rule("b")), ANY), "ac", 1, [])
        self.kids(row(rule("e"), choice(row(rule("a"), B), row(rule("m"), rule("c")))), "ac", 2,
                  [("e", 0), ("m", 0), ("c", 1)])
        self.kids(choice(row(rule("a"), choice(row(rule("b"), B), rule("b")), B), rule("a")), "abc", 1, [("a", 0)])

    def test_turns(self):
        self.kids(many(rule("a")), "aab", 2, [("a", 0), ("a", 1)])
        self.kids(many(row(rule("a"), rule("b"))), "ababa", 4, [("a", 0), ("b", 1), ("a", 2), ("b", 3)])
        self.kids(many(rule("a")), "b", 0, [])
        self.kids(row(rule("b"), many(rule("a")), rule("b")), "bab", 3, [("b", 0), ("a", 1), ("b", 2)])

    def test_turns_that_do_not_fit(self):
        self.kids(many(row(rule("a"), rule("b"))), "aba", 2, [("a", 0), ("b", 1)])
        self.kids(row(many(row(rule("a"), rule("b"))), rule("a")), "aba", 3, [("a", 0), ("b", 1), ("a", 2)])

    def test_turns_that_take_no_sign(self):
        self.kids(many(rule("e")), "a", 0, [])
        self.kids(many(rule("m")), "aab", 2, [("m", 0)])
        self.kids(many(choice(rule("a"), rule("e"))), "aab", 2, [("a", 0), ("a", 1)])
        self.kids(many(row(rule("e"), many(rule("a")))), "aa", 2, [("e", 0), ("a", 0), ("a", 1)])
        self.kids(row(rule("e"), many(row(rule("e"), rule("m"))), rule("e")), "ab", 1,
                  [("e", 0), ("e", 0), ("m", 0), ("e", 1)])
        self.kids(row(rule("a"), many(rule("e"))), "ab", 1, [("a", 0)])
        self.kids(many(many(many(rule("a")))), "aa", 2, [("a", 0), ("a", 1)])

    def test_what_was_begun_in_a_turn_that_takes_no_sign_is_there(self):
        one = reading_of(many(rule("m")), "aab")
        one.read("x", 0)
        self.assertEqual(one.entries(), [("x", 0, 2, [("m", 0)]), ("m", 0, 2, []), ("m", 2, 2, [])])

    def test_within_not(self):
        self.kids(none_of(rule("a")), "b", 0, [])
        self.kids(none_of(none_of(rule("a"))), "a", 0, [])
        self.kids(row(none_of(row(rule("a"), rule("b"))), rule("a")), "ac", 1, [("a", 0)])
        self.kids(row(none_of(none_of(row(rule("a"), rule("b")))), rule("t")), "ab", 2, [("t", 0)])
        self.kids(row(rule("e"), none_of(row(rule("a"), rule("b")))), "ac", 0, [("e", 0)])
        self.kids(choice(none_of(rule("a")), rule("a")), "a", 1, [("a", 0)])
        self.kids(choice(row(rule("a"), none_of(rule("b"))), rule("a")), "ab", 1, [("a", 0)])
        self.kids(many(row(none_of(rule("b")), rule("t"))), "acab", 4, [("t", 0), ("t", 2)])

    def test_of_not_within_another_rule(self):
        rules = [("x", row(rule("y"), rule("z"))), ("y", none_of(rule("w"))), ("z", A), ("w", row(rule("z"), B))]
        one = Reading(Grammar(rules), "aa")
        self.assertEqual(one.read("x", 0), 1)
        self.assertEqual(one.entries(), [
            ("x", 0, 1, [("y", 0), ("z", 0)]),
            ("y", 0, 0, []),
            ("w", 0, None, []),
            ("z", 0, 1, []),
        ])

    def test_kept_ones_are_kids_as_well(self):
        one = reading_of(row(rule("a"), rule("b")), "ab")
        one.read("a", 0)
        one.read("b", 1)
        one.read("x", 0)
        self.assertEqual(one.entries()[2], ("x", 0, 2, [("a", 0), ("b", 1)]))

    def test_kept_ones_that_do_not_fit_are_none(self):
        one = reading_of(choice(rule("b"), rule("a")), "ab")
        one.read("b", 0)
        self.assertEqual(one.read("x", 0), 1)
        self.assertEqual(one.entries()[1], ("x", 0, 1, [("a", 0)]))

    def test_at_the_texts_end(self):
        one = reading_of(row(rule("e"), many(rule("a"))), "b")
        self.assertEqual(one.read("x", 1), 1)
        self.assertEqual(one.entries(), [("x", 1, 1, [("e", 1)]), ("e", 1, 1, []), ("a", 1, None, [])])

    def test_that_ends_where_it_begins_is_not_one_that_does_not_fit(self):
        one = reading_of(EMPTY, "a")
        self.assertEqual(one.read("x", 0), 0)
        self.assertIsNotNone(one.read("x", 0))
        self.assertEqual(one.entries(), [("x", 0, 0, [])])


class Refusals(unittest.TestCase):
    """The interface: NoRule, then OutOfPlace; nothing is begun."""

    NAMES = ["z", "", "A", "ab", "any", " a", "abcdefghijklm"]

    def setUp(self):
        self.grammar = Grammar([("a", row(rule("b"), B)), ("b", A)])

    def refused(self, kind, name, place, text="ab"):
        one = Reading(self.grammar, text)
        for question in [one.read, one.tree]:
            with self.assertRaises(kind) as caught:
                question(name, place)
            self.assertIs(caught.exception.__class__, kind)
            self.assertEqual(one.begun(), [])
            self.assertEqual(one.entries(), [])
        for most in [0, 1, 100]:
            with self.assertRaises(kind) as caught:
                plainly(self.grammar, text, name, place, most)
            self.assertIs(caught.exception.__class__, kind)

    def test_no_rule(self):
        for name in self.NAMES:
            for place in [0, 1, 2]:
                with self.subTest(name=name, place=place):
                    self.refused(NoRule, name, place)

    def test_out_of_place(self):
        for place in [-1, -2, -3, -100, 3, 4, 100]:
            with self.subTest(place=place):
                self.refused(OutOfPlace, "a", place)
        for place in [-1, 1]:
            self.refused(OutOfPlace, "b", place, "")

    def test_no_rule_ahead_of_out_of_place(self):
        for place in [-1, 3]:
            self.refused(NoRule, "z", place)

    def test_first_and_last_place_are_taken(self):
        for text in ["", "a", "ab"]:
            one = Reading(self.grammar, text)
            for place in range(len(text) + 1):
                one.read("a", place)
                one.tree("b", place)
                plainly(self.grammar, text, "a", place, 100)

    def test_begin_nothing_behind_others_either(self):
        one = Reading(self.grammar, "ab")
        self.assertEqual(one.read("a", 0), 2)
        kept = one.entries()
        for name, place in [("z", 0), ("a", 3), ("a", -1), ("z", 9)]:
            for question in [one.read, one.tree]:
                with self.assertRaises((NoRule, OutOfPlace)):
                    question(name, place)
                self.assertEqual(one.entries(), kept)
        self.assertEqual(one.read("a", 0), 2)
        self.assertEqual(one.begun(), [("a", 0), ("b", 0)])


if __name__ == "__main__":
    unittest.main()
