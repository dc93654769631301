"""Point [1] over the whole program: lists may be changed by whoever has them, texts may be long."""

import copy
import sys
import unittest

from grammarpack.errors import TooLong
from grammarpack.grammars import Grammar
from grammarpack.notes import grammar_of, shown
from grammarpack.reading import Reading, plainly
from tests.making import A, ANY, B, EMPTY, SIGNS, choice, deep, many, names_of, none_of, row, rule

ALL_SIGNS = "".join(SIGNS)


class ListsThatMayBeChanged(unittest.TestCase):
    RULES = [("x", row(rule("y"), many(rule("z")))), ("y", choice(row(rule("z"), B), rule("e"))), ("z", A),
             ("e", EMPTY)]
    TREE = [(0, "x", 0, 3), (1, "y", 0, 2), (2, "z", 0, 1), (1, "z", 2, 3)]
    ENTRIES = [("x", 0, 3, [("y", 0), ("z", 2)]), ("y", 0, 2, [("z", 0)]), ("z", 0, 1, []), ("z", 2, 3, []),
               ("z", 3, None, [])]
    BEGUN = [("x", 0), ("y", 0), ("z", 0), ("z", 2), ("z", 3)]

    def check(self, one):
        self.assertEqual(one.read("x", 0), 3)
        self.assertEqual(one.tree("x", 0), self.TREE)
        self.assertEqual(one.begun(), self.BEGUN)
        self.assertEqual(one.entries(), self.ENTRIES)

    def spoil(self, told):
        """Change a list as much as may be, and the lists within it."""
        for item in told:
            if isinstance(item, tuple):
                for inner in item:
                    if isinstance(inner, list):
                        inner.append(("zz", 9))
                        inner.reverse()
        told.append("zz")
        told.reverse()

    def empty(self, told):
        for item in told:
            if isinstance(item, tuple):
                for inner in item:
                    if isinstance(inner, list):
                        inner.clear()
        told.clear()

    def test_the_list_of_rules(self):
        for at in range(3):
            rules = list(self.RULES)
            grammar = Grammar(rules)
            if at == 0:
                rules.clear()
            one = Reading(grammar, "aba")
            if at == 1:
                rules.clear()
            one.read("z", 0)
            if at == 2:
                rules.clear()
            two = Reading(grammar, "aba")
            rules.append(("q", ANY))
            self.check(two)
            self.assertEqual(one.tree("x", 0), self.TREE)
            self.assertEqual(plainly(grammar, "aba", "x", 0, 100), self.TREE)
            self.assertEqual(shown(grammar), shown(Grammar(self.RULES)))

    def test_lists_that_a_reading_told(self):
        grammar = Grammar(self.RULES)
        one = Reading(grammar, "aba")
        self.spoil(one.begun())
        self.spoil(one.entries())
        self.check(one)
        for change in [self.spoil, self.empty]:
            change(one.begun())
            self.check(one)
            change(one.entries())
            self.check(one)
            change(one.tree("x", 0))
            self.check(one)

    def test_lists_that_were_told_stay_as_they_are(self):
        one = Reading(Grammar(self.RULES), "aba")
        one.read("z", 0)
        begun, entries = one.begun(), one.entries()
        kept = copy.deepcopy((begun, entries))
        one.read("x", 0)
        self.assertEqual((begun, entries), kept)

    def test_lists_that_a_grammar_told(self):
        grammar = Grammar(self.RULES)
        one = Reading(grammar, "aba")
        for change in [self.spoil, self.empty]:
            for told in [grammar.names(), grammar.empties(), grammar.asked("x")]:
                change(told)
        self.check(one)
        self.assertEqual(grammar.names(), ["x", "y", "z", "e"])
        self.assertEqual(grammar.empties(), ["x", "y", "e"])
        self.assertEqual(grammar.asked("x"), ["y", "z"])
        self.assertEqual(grammar_of(shown(grammar)).names(), grammar.names())

    def test_rows_that_plainly_told(self):
        grammar = Grammar(self.RULES)
        for change in [self.spoil, self.empty]:
            change(plainly(grammar, "aba", "x", 0, 100))
            self.assertEqual(plainly(grammar, "aba", "x", 0, 100), self.TREE)

    def test_plainly_after_it_was_refused(self):
        grammar = Grammar(self.RULES)
        with self.assertRaises(TooLong):
            plainly(grammar, "aba", "x", 0, 3)
        self.assertEqual(plainly(grammar, "aba", "x", 0, 100), self.TREE)


class EachSign(unittest.TestCase):
    def test_is_read_and_written(self):
        grammar = Grammar([("all", many(choice(*[("sign", sign) for sign in SIGNS])))])
        for one in [grammar, grammar_of(shown(grammar))]:
            self.assertEqual(Reading(one, ALL_SIGNS).read("all", 0), 96)
            self.assertEqual(Reading(one, ALL_SIGNS * 3).read("all", 5), 96 * 3)


class LongTexts(unittest.TestCase):
    """Nothing within the program may hang on how deep Python's own calls go."""

    LENGTH = 5000

    def setUp(self):
        # What a text of this length needs is far more than this; a few hundred calls
        # are all that the program may need.
        self.limit = sys.getrecursionlimit()
        sys.setrecursionlimit(400)

    def tearDown(self):
        sys.setrecursionlimit(self.limit)

    def check_ladder(self, rules, text, ends):
        """A rule r that asks itself at each place, up to the end."""
        grammar = Grammar(rules)
        wanted = [(place, "r", place, end) for place, end in enumerate(ends)]
        one = Reading(grammar, text)
        self.assertEqual(one.read("r", 0), ends[0])
        self.assertEqual(one.begun(), [("r", place) for place in range(len(text) + 1)])
        self.assertEqual(one.tree("r", 0), wanted)
        entries = one.entries()
        self.assertEqual([entry[2] for entry in entries[:len(ends)]], ends)
        self.assertEqual([entry[3] for entry in entries[:len(ends) - 1]], [[row[1:3]] for row in wanted[1:]])
        self.assertEqual(plainly(grammar, text, "r", 0, 100 * len(text)), wanted)
        with self.assertRaises(TooLong):
            plainly(grammar, text, "r", 0, len(text))

    def test_behind_each_sign(self):
        for length in [1301, self.LENGTH]:
            self.check_ladder([("r", choice(row(A, rule("r")), EMPTY))], "a" * length, [length] * (length + 1))

    def test_between_two_signs(self):
        rules = [("r", choice(row(A, rule("r"), B), EMPTY))]
        length = self.LENGTH
        grammar = Grammar(rules)
        text = "a" * length + "b" * length
        one = Reading(grammar, text)
        wanted = [(place, "r", place, 2 * length - place) for place in range(length + 1)]
        self.assertEqual(one.tree("r", 0), wanted)
        self.assertEqual(plainly(grammar, text, "r", 0, 10 ** 9), wanted)

    def test_last_sign_lacks(self):
        grammar = Grammar([("r", choice(row(A, rule("r")), B))])
        text = "a" * self.LENGTH
        one = Reading(grammar, text)
        self.assertIsNone(one.read("r", 0))
        self.assertIsNone(one.tree("r", 0))
        self.assertEqual(len(one.begun()), self.LENGTH + 1)
        self.assertTrue(all(entry[2:] == (None, []) for entry in one.entries()))
        self.assertIsNone(plainly(grammar, text, "r", 0, 10 ** 9))

    def test_within_turns_choices_and_nots(self):
        turn = row(EMPTY, choice(B, rule("r")), B)
        step = row(none_of(B), A, none_of(none_of(row(many(turn)))))
        grammar = Grammar([("r", choice(step, EMPTY))])
        # Each one asks the next one within a not that stands in a not: nothing of it is told.
        text = "a" * self.LENGTH
        one = Reading(grammar, text)
        self.assertEqual(one.tree("r", 0), [(0, "r", 0, 1)])
        self.assertEqual(len(one.begun()), self.LENGTH + 1)

    def test_by_way_of_many_rules(self):
        names = names_of(40)
        rules = [(name, choice(row(A, rule(after)), EMPTY)) for name, after in zip(names, names[1:] + names[:1])]
        grammar = Grammar(rules)
        rows = Reading(grammar, "a" * self.LENGTH).tree("aa", 0)
        self.assertEqual(len(rows), self.LENGTH + 1)
        self.assertEqual(rows[-1], (self.LENGTH, names[self.LENGTH % 40], self.LENGTH, self.LENGTH))

    def test_many_turns(self):
        grammar = Grammar([("r", many(rule("s"))), ("s", ANY)])
        text = "ab" * self.LENGTH
        one = Reading(grammar, text)
        wanted = [(0, "r", 0, len(text))] + [(1, "s", place, place + 1) for place in range(len(text))]
        self.assertEqual(one.tree("r", 0), wanted)
        self.assertEqual(one.entries()[0][3], [row[1:3] for row in wanted[1:]])
        self.assertEqual(plainly(grammar, text, "r", 0, 10 ** 9), wanted)

    def test_with_remembering_no_longer_than_needed(self):
        # Without it each place would double what is to be done.
        grammar = Grammar([("r", choice(row(A, rule("r"), B), row(A, rule("r")), EMPTY))])
        text = "a" * self.LENGTH
        one = Reading(grammar, text)
        self.assertEqual(one.read("r", 0), self.LENGTH)
        self.assertEqual(len(one.begun()), self.LENGTH + 1)
        with self.assertRaises(TooLong):
            plainly(grammar, text, "r", 0, 10000)

    def test_deep_parts_need_few_calls(self):
        part = deep(10, row(A, none_of(rule("r"))), choice)
        grammar = Grammar([("r", part)])
        self.assertEqual(Reading(grammar, "a" * self.LENGTH).read("r", 0), None)
        self.assertEqual(Reading(grammar, "a" * (self.LENGTH + 1)).read("r", 0), 1)
        self.assertEqual(grammar_of(shown(grammar)).part("r"), part)


if __name__ == "__main__":
    unittest.main()
