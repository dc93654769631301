"""Points [9] and [10]: trees, and the same trees read without remembering, step by step."""

import unittest

from grammarpack.errors import NoRule, OutOfPlace, TooLong
from grammarpack.grammars import Grammar
from grammarpack.reading import Reading, plainly
from tests.making import A, ANY, B, EMPTY, choice, many, names_of, none_of, row, rule

SPAN = ("span", "a", "b")
REST = [("a", A), ("b", B), ("e", EMPTY), ("m", many(A))]


class Trees(unittest.TestCase):
    """Point [9]."""

    def trees(self, rules, text, name, place, wanted):
        with self.subTest(rules=rules, text=text):
            grammar = Grammar(rules)
            self.assertEqual(Reading(grammar, text).tree(name, place), wanted)
            self.assertEqual(plainly(grammar, text, name, place, 10000), wanted)

    def tree(self, part, text, wanted):
        self.trees([("x", part)] + REST, text, "x", 0, wanted)

    def test_the_rule_alone(self):
        self.tree(A, "ab", [(0, "x", 0, 1)])
        self.tree(EMPTY, "ab", [(0, "x", 0, 0)])
        self.tree(row(A, B), "ab", [(0, "x", 0, 2)])

    def test_none_where_it_does_not_fit(self):
        self.tree(B, "ab", None)
        self.tree(row(rule("a"), rule("a")), "ab", None)
        self.tree(none_of(rule("e")), "ab", None)

    def test_kids_in_order(self):
        self.tree(row(rule("a"), rule("b"), rule("e")), "ab",
                  [(0, "x", 0, 2), (1, "a", 0, 1), (1, "b", 1, 2), (1, "e", 2, 2)])

    def test_each_one_deeper(self):
        rules = [("x", row(rule("y"), rule("z"))), ("y", row(rule("z"), rule("w"))), ("z", rule("w")),
                 ("w", choice(A, B))]
        self.trees(rules, "aba", "x", 0, [
            (0, "x", 0, 3),
            (1, "y", 0, 2),
            (2, "z", 0, 1),
            (3, "w", 0, 1),
            (2, "w", 1, 2),
            (1, "z", 2, 3),
            (2, "w", 2, 3),
        ])
        self.trees(rules, "aba", "y", 1, [(0, "y", 1, 3), (1, "z", 1, 2), (2, "w", 1, 2), (1, "w", 2, 3)])

    def test_one_that_stands_there_twice_is_told_twice(self):
        rules = [("x", row(rule("y"), rule("y"))), ("y", row(rule("e"), rule("e"))), ("e", EMPTY)]
        twice = [(1, "y", 0, 0), (2, "e", 0, 0), (2, "e", 0, 0)]
        self.trees(rules, "a", "x", 0, [(0, "x", 0, 0)] + twice + twice)

    def test_just_the_way_that_was_taken(self):
        self.tree(choice(row(rule("a"), rule("a")), row(rule("a"), rule("b"))), "ab",
                  [(0, "x", 0, 2), (1, "a", 0, 1), (1, "b", 1, 2)])
        self.tree(many(row(rule("a"), rule("b"))), "aba", [(0, "x", 0, 2), (1, "a", 0, 1), (1, "b", 1, 2)])
        self.tree(many(rule("m")), "aa", [(0, "x", 0, 2), (1, "m", 0, 2)])
        self.tree(row(none_of(rule("b")), none_of(none_of(rule("a"))), rule("m")), "aa",
                  [(0, "x", 0, 2), (1, "m", 0, 2)])

    def test_what_fitted_within_a_rule_that_does_not_is_not_told(self):
        rules = [("x", choice(rule("y"), row(rule("a"), rule("c")))), ("y", row(rule("a"), rule("b"))),
                 ("a", A), ("b", B), ("c", ("sign", "c"))]
        self.trees(rules, "ac", "x", 0, [(0, "x", 0, 2), (1, "a", 0, 1), (1, "c", 1, 2)])

    def test_depth_behind_rules_that_do_not_fit(self):
        rules = [("x", row(choice(rule("y"), rule("a")), rule("z"))), ("y", row(rule("z"), rule("z"), rule("b"))),
                 ("z", rule("a")), ("a", A), ("b", B)]
        self.trees(rules, "aaa", "x", 0, [(0, "x", 0, 2), (1, "a", 0, 1), (1, "z", 1, 2), (2, "a", 1, 2)])

    def test_at_a_later_place_and_at_the_end(self):
        rules = [("x", many(rule("a"))), ("a", A)]
        self.trees(rules, "aba", "x", 2, [(0, "x", 2, 3), (1, "a", 2, 3)])
        self.trees(rules, "aba", "x", 1, [(0, "x", 1, 1)])
        self.trees(rules, "aba", "x", 3, [(0, "x", 3, 3)])
        self.trees(rules, "aba", "a", 3, None)
        self.trees(rules, "", "x", 0, [(0, "x", 0, 0)])

    def test_kinds_of_what_is_told(self):
        grammar = Grammar([("x", rule("a")), ("a", A)])
        for told in [Reading(grammar, "a").tree("x", 0), plainly(grammar, "a", "x", 0, 9)]:
            self.assertIsInstance(told, list)
            self.assertTrue(all(isinstance(line, tuple) and len(line) == 4 for line in told))

    def test_the_same_when_it_is_asked_again(self):
        one = Reading(Grammar([("x", row(rule("a"), rule("a"))), ("a", A)]), "aa")
        wanted = [(0, "x", 0, 2), (1, "a", 0, 1), (1, "a", 1, 2)]
        for _ in range(3):
            self.assertEqual(one.tree("x", 0), wanted)
        self.assertEqual(one.tree("a", 1), [(0, "a", 1, 2)])


class Steps(unittest.TestCase):
    """Point [10]."""

    def wants(self, rules, text, name, place, steps):
        """With just so many steps it is told, with fewer it is refused, whatever comes of it."""
        with self.subTest(rules=rules, text=text):
            grammar = Grammar(rules)
            tree = Reading(grammar, text).tree(name, place)
            for most in [steps, steps + 1, steps + 1000]:
                self.assertEqual(plainly(grammar, text, name, place, most), tree)
            for most in range(min(steps, 60)):
                self.too_long(grammar, text, name, place, most)
            self.too_long(grammar, text, name, place, steps - 1)

    def too_long(self, grammar, text, name, place, most):
        with self.assertRaises(TooLong) as caught:
            plainly(grammar, text, name, place, most)
        self.assertIs(caught.exception.__class__, TooLong)

    def part_wants(self, part, text, steps):
        """So many steps beside the one that begins x."""
        self.wants([("x", part)] + REST, text, "x", 0, steps + 1)

    def test_the_rule_that_is_handed_in(self):
        self.part_wants(EMPTY, "a", 0)
        self.part_wants(EMPTY, "", 0)

    def test_each_kind_of_sign(self):
        for part in [A, SPAN, ANY]:
            self.part_wants(part, "a", 1)
            self.part_wants(part, "c", 1)
            self.part_wants(part, "", 1)

    def test_each_rule(self):
        self.part_wants(rule("e"), "a", 1)
        self.part_wants(rule("a"), "a", 2)
        self.part_wants(rule("a"), "b", 2)
        self.part_wants(row(rule("e"), rule("e"), rule("e")), "b", 3)

    def test_rows(self):
        self.part_wants(row(A, B, ANY), "aba", 3)
        self.part_wants(row(A, B, ANY), "aa", 2)
        self.part_wants(row(A, B, ANY), "b", 1)
        self.part_wants(row(EMPTY, row(EMPTY), EMPTY), "b", 0)

    def test_choices(self):
        self.part_wants(choice(A, B, ANY), "a", 1)
        self.part_wants(choice(A, B, ANY), "b", 2)
        self.part_wants(choice(A, B, ANY), "c", 3)
        self.part_wants(choice(A, B, ANY), "", 3)
        self.part_wants(choice(EMPTY, A), "a", 0)

    def test_turns(self):
        self.part_wants(many(A), "aab", 3)
        self.part_wants(many(A), "aa", 3)
        self.part_wants(many(A), "", 1)
        self.part_wants(many(EMPTY), "aa", 0)
        self.part_wants(many(many(A)), "aa", 4)
        self.part_wants(many(rule("a")), "aa", 6)
        self.part_wants(many(choice(A, EMPTY)), "a", 2)

    def test_nots(self):
        self.part_wants(none_of(A), "a", 1)
        self.part_wants(none_of(A), "b", 1)
        self.part_wants(none_of(none_of(rule("a"))), "b", 2)
        self.part_wants(none_of(EMPTY), "b", 0)

    def test_a_rule_is_begun_each_time(self):
        self.part_wants(choice(row(rule("a"), A), row(rule("a"), B)), "ab", 6)
        self.part_wants(row(none_of(rule("b")), none_of(rule("b")), rule("a")), "a", 6)
        self.part_wants(choice(row(rule("m"), A), row(rule("m"), B)), "aab", 10)

    def test_where_nothing_fits(self):
        self.part_wants(row(rule("a"), rule("b")), "aa", 4)
        self.part_wants(choice(rule("b"), row(rule("a"), rule("a"))), "ab", 6)

    def test_many_more_than_with_remembering(self):
        # The first way of each rule asks the next rule, fails behind it, and the second
        # way asks it again: twice as much for each rule.
        names = "abcdefghij"
        rules = [(name, choice(row(rule(after), B), row(rule(after), A))) for name, after in zip(names, names[1:])]
        rules.append(("j", EMPTY))
        # Nine a stand there: each rule takes one behind what the next one took.
        # s(j) = 1; s(n) = 1 + 2 * s(next) + 2
        steps = 1
        for _ in range(9):
            steps = 3 + 2 * steps
        self.wants(rules, "a" * 9, "a", 0, steps)
        one = Reading(Grammar(rules), "a" * 9)
        self.assertEqual(one.read("a", 0), 9)
        self.assertEqual(len(one.begun()), 10)

    def test_refused_before_it_takes_too_long_to_wait(self):
        names = names_of(40)
        rules = [(name, choice(row(rule(after), B), row(rule(after), A))) for name, after in zip(names, names[1:])]
        rules.append((names[39], EMPTY))
        grammar = Grammar(rules)
        for most in [0, 1, 100, 5000]:
            self.too_long(grammar, "a" * 39, "aa", 0, most)
        self.assertEqual(Reading(grammar, "a" * 39).read("aa", 0), 39)

    def test_ring_of_signs(self):
        rules = [("p", choice(row(A, rule("p")), EMPTY))]
        self.wants(rules, "aaa", "p", 0, 8)
        self.wants(rules, "aab", "p", 1, 4)
        self.wants(rules, "", "p", 0, 2)

    def test_other_refusals_come_first(self):
        grammar = Grammar([("x", A)])
        for most in [0, 1, 5]:
            for place in [-1, 0, 1, 2, 3]:
                with self.assertRaises(NoRule):
                    plainly(grammar, "aa", "y", place, most)
            for place in [-1, 3]:
                with self.assertRaises(OutOfPlace):
                    plainly(grammar, "aa", "x", place, most)
        self.too_long(grammar, "aa", "x", 2, 1)

    def test_readings_know_nothing_of_it(self):
        grammar = Grammar([("x", rule("a")), ("a", A)])
        one = Reading(grammar, "a")
        plainly(grammar, "a", "x", 0, 9)
        self.assertEqual(one.begun(), [])


if __name__ == "__main__":
    unittest.main()
