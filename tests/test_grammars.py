"""Points [3] to [6]: which grammars there are, how others are refused, what follows from rules."""

import copy
import unittest

from grammarpack import grammars
from grammarpack.errors import Circling, NoGrammar, NoRule
from grammarpack.grammars import Grammar
from tests.making import A, ANY, EMPTY, LETTERS, SIGNS, choice, deep, many, names_of, none_of, row, rule

# Each puts a part within another kind of part, or behind or ahead of others there.
WRAPS = {
    "row alone": lambda part: row(part),
    "row first": lambda part: row(part, A),
    "row last": lambda part: row(A, EMPTY, part),
    "row middle": lambda part: row(A, part, A),
    "or alone": lambda part: choice(part),
    "or first": lambda part: choice(part, ANY),
    "or last": lambda part: choice(EMPTY, ANY, part),
    "many": lambda part: many(part),
    "not": lambda part: none_of(part),
    "many not row or": lambda part: many(none_of(row(A, choice(A, part)))),
}

WRONG_PARTS = {
    "no tuple": "any",
    "a list": ["any"],
    "a number": 7,
    "none": None,
    "no kind": (),
    "another kind": ("other",),
    "another kind of a part": ("maybe", ANY),
    "another kind of parts": ("all", (ANY,)),
    "kind in great letters": ("ANY",),
    "kind with a blank": ("any ",),
    "kind is a number": (1, "a"),
    "kind is a part": (ANY,),
    "kind is two parts": (ANY, ANY),
    "kind is a list": ([], "a"),
    "any with more": ("any", "a"),
    "sign alone": ("sign",),
    "sign with more": ("sign", "a", "b"),
    "sign of no sign": ("sign", ""),
    "sign of two": ("sign", "ab"),
    "sign of two that stand so in ascii": ("sign", "bc"),
    "sign of number 37": ("sign", "\x25"),
    "sign nul": ("sign", "\x00"),
    "sign ahead of tab": ("sign", "\x08"),
    "sign behind line end": ("sign", "\x0b"),
    "sign carriage return": ("sign", "\r"),
    "sign ahead of blank": ("sign", "\x1f"),
    "sign behind tilde": ("sign", "\x7f"),
    "sign beyond ascii": ("sign", "\xe4"),
    "sign is a number": ("sign", 97),
    "sign is none": ("sign", None),
    "sign is bytes": ("sign", b"a"),
    "sign is a tuple": ("sign", ("a",)),
    "span alone": ("span",),
    "span of one": ("span", "a"),
    "span of three": ("span", "a", "b", "c"),
    "span that is a tuple": ("span", ("a", "b")),
    "span goes back": ("span", "b", "a"),
    "span goes back from the last": ("span", "~", "}"),
    "span goes back to great letters": ("span", "a", "Z"),
    "span goes back to tab": ("span", "\n", "\t"),
    "span from no sign": ("span", "", "a"),
    "span to no sign": ("span", "a", ""),
    "span from two": ("span", "ab", "c"),
    "span to two": ("span", "a", "bc"),
    "span from number 37": ("span", "\x25", "a"),
    "span to number 37": ("span", " ", "\x25"),
    "span from ahead of tab": ("span", "\x08", "a"),
    "span to behind tilde": ("span", "a", "\x7f"),
    "span from a number": ("span", 1, "a"),
    "span to a number": ("span", "a", 200),
    "row alone": ("row",),
    "row of a list": ("row", [ANY]),
    "row of an empty list": ("row", []),
    "row of a part": ("row", ANY),
    "row of parts": ("row", ANY, ANY),
    "row of parts and more": ("row", (ANY,), ANY),
    "row of a text": ("row", "any"),
    "row of an empty text": ("row", ""),
    "row of none": ("row", None),
    "or alone": ("or",),
    "or of nothing": ("or", ()),
    "or of a list": ("or", [ANY]),
    "or of a part": ("or", ANY),
    "or of parts": ("or", ANY, ANY),
    "or of a text": ("or", "any"),
    "many alone": ("many",),
    "many of two": ("many", ANY, ANY),
    "many of parts": ("many", (ANY,)),
    "many of nothing": ("many", ()),
    "many of a text": ("many", "any"),
    "not alone": ("not",),
    "not of two": ("not", ANY, ANY),
    "not of parts": ("not", (ANY, ANY)),
    "not of nothing": ("not", ()),
    "not of a list": ("not", ["any"]),
    "rule alone": ("rule",),
    "rule with more": ("rule", "a", "b"),
    "rule of no text": ("rule", 5),
}

WRONG_NAMES = {
    "empty": "",
    "thirteen letters": "abcdefghijklm",
    "great letter": "A",
    "great letter within": "aBc",
    "figure": "a1",
    "blank": "a b",
    "blank behind": "a ",
    "line end": "a\n",
    "line": "a_b",
    "dash": "a-b",
    "equals": "=",
    "beyond ascii": "\xe4",
    "beyond ascii within": "a\xdf",
    "number": 1,
    "none": None,
    "bytes": b"a",
    "tuple": ("a",),
    "ahead of a": "`",
    "behind z": "{",
}


class Case(unittest.TestCase):
    def refused(self, kind, rules):
        """Refused by this very class, and nothing else."""
        with self.assertRaises(kind) as caught:
            Grammar(rules)
        self.assertIs(caught.exception.__class__, kind)

    def empties(self, rules, wanted):
        self.assertEqual(Grammar(rules).empties(), wanted)


class TheInterface(Case):
    def test_is_defined_in_its_file(self):
        self.assertEqual(Grammar.__module__, "grammarpack.grammars")
        self.assertIs(grammars.Grammar, Grammar)

    def test_methods_are_the_classes_own(self):
        for name in ["names", "part", "empties", "asked"]:
            self.assertIn(name, Grammar.__dict__)

    def test_names_and_parts_are_told_as_handed_in(self):
        rules = [("b", row(A, rule("c"))), ("a", ANY), ("c", choice(A, EMPTY))]
        grammar = Grammar(rules)
        self.assertEqual(grammar.names(), ["b", "a", "c"])
        self.assertIsInstance(grammar.names(), list)
        for name, part in rules:
            self.assertEqual(grammar.part(name), part)

    def test_kinds_of_what_is_told(self):
        grammar = Grammar([("a", many(rule("b"))), ("b", ANY)])
        self.assertIsInstance(grammar.empties(), list)
        self.assertIsInstance(grammar.asked("a"), list)
        self.assertIsInstance(grammar.part("a"), tuple)

    def test_may_be_passed_by_name(self):
        grammar = Grammar(rules=[("a", ANY)])
        self.assertEqual(grammar.part(name="a"), ANY)
        self.assertEqual(grammar.asked(name="a"), [])

    def test_part_and_asked_refuse_other_names(self):
        grammar = Grammar([("a", ANY), ("bc", ANY)])
        for name in ["b", "c", "", "A", "a ", "abc", "any", "abcdefghijklmn", "="]:
            with self.subTest(name=name):
                with self.assertRaises(NoRule):
                    grammar.part(name)
                with self.assertRaises(NoRule):
                    grammar.asked(name)


class HowDeep(Case):
    """Point [3]."""

    def test_what_is_one_deep(self):
        for innermost in [A, ("span", "a", "b"), ANY, rule("b"), EMPTY]:
            for wrap in WRAPS:
                if wrap == "many not row or":
                    continue
                with self.subTest(innermost=innermost, wrap=wrap):
                    part = deep(12, innermost, WRAPS[wrap])
                    grammar = Grammar([("a", part), ("b", ANY)])
                    self.assertEqual(grammar.part("a"), part)
                    part = deep(13, innermost, WRAPS[wrap])
                    self.refused(NoGrammar, [("a", part), ("b", ANY)])

    def test_somewhat_deeper(self):
        for many_deep in [13, 14, 20, 50, 300]:
            for wrap in ["row alone", "or alone", "many", "not"]:
                with self.subTest(many_deep=many_deep, wrap=wrap):
                    self.refused(NoGrammar, [("a", deep(many_deep, ANY, WRAPS[wrap]))])

    def test_the_deepest_one_within_counts(self):
        low, high, over = deep(3), deep(11), deep(12)
        for parts in [(low, high), (high, low), (low, high, low)]:
            Grammar([("a", ("row", parts))])
            Grammar([("a", ("or", parts))])
        for parts in [(low, over), (over, low), (high, over, high)]:
            self.refused(NoGrammar, [("a", ("row", parts))])
            self.refused(NoGrammar, [("a", ("or", parts))])

    def test_empty_row_is_no_deeper_than_a_sign(self):
        Grammar([("a", deep(12, EMPTY, none_of))])
        self.refused(NoGrammar, [("a", deep(12, row(EMPTY), none_of))])
        self.refused(NoGrammar, [("a", deep(12, row(A), none_of))])

    def test_rules_within_count_one_however_deep_they_are(self):
        rules = [("a", deep(12, rule("b"), none_of)), ("b", deep(12, rule("c"))), ("c", deep(12))]
        self.assertEqual(Grammar(rules).names(), ["a", "b", "c"])

    def test_each_rule_is_measured(self):
        for at in range(3):
            rules = [("a", ANY), ("b", ANY), ("c", ANY)]
            rules[at] = (rules[at][0], deep(13))
            self.refused(NoGrammar, rules)


class HowMany(Case):
    """Point [4]: the count."""

    def test_none(self):
        self.refused(NoGrammar, [])

    def test_each_count_from_one_to_forty(self):
        for count in range(1, 41):
            names = names_of(count)
            grammar = Grammar([(name, ANY) for name in names])
            self.assertEqual(grammar.names(), names)

    def test_more_than_forty(self):
        for count in [41, 42, 60, 200]:
            self.refused(NoGrammar, [(name, ANY) for name in names_of(count)])


class HowCalled(Case):
    """Point [4]: names."""

    def test_names_that_there_are(self):
        for name in list(LETTERS) + ["any", "row", "rule", "abcdefghijkl", "zzzzzzzzzzzz", "nopqrstuvwxy"]:
            with self.subTest(name=name):
                grammar = Grammar([(name, ANY)])
                self.assertEqual(grammar.names(), [name])
                self.assertEqual(grammar.part(name), ANY)

    def test_each_length(self):
        for length in range(1, 13):
            Grammar([("q" * length, ANY)])
        for length in [0, 13, 14, 100]:
            self.refused(NoGrammar, [("q" * length, ANY)])

    def test_other_names(self):
        for why in WRONG_NAMES:
            with self.subTest(why=why):
                self.refused(NoGrammar, [(WRONG_NAMES[why], ANY)])
                self.refused(NoGrammar, [("a", ANY), (WRONG_NAMES[why], ANY)])
                self.refused(NoGrammar, [(WRONG_NAMES[why], ANY), ("a", ANY)])

    def test_no_other_sign_stands_in_a_name(self):
        for sign in SIGNS:
            if sign not in LETTERS:
                self.refused(NoGrammar, [("a" + sign, ANY)])
                self.refused(NoGrammar, [(sign + "a", ANY)])

    def test_the_same_name_twice(self):
        self.refused(NoGrammar, [("a", ANY), ("a", ANY)])
        self.refused(NoGrammar, [("a", ANY), ("a", A)])
        self.refused(NoGrammar, [("a", ANY), ("b", ANY), ("a", ANY)])
        self.refused(NoGrammar, [("b", ANY), ("a", ANY), ("c", ANY), ("a", ANY)])
        Grammar([("a", ANY), ("aa", ANY), ("aaa", ANY)])

    def test_pairs_that_are_none(self):
        for pair in [(), ("a",), ("a", ANY, ANY), None, "ab", ["a", ANY]]:
            with self.subTest(pair=pair):
                self.refused(NoGrammar, [pair])
                self.refused(NoGrammar, [("b", ANY), pair])


class WhichParts(Case):
    """Point [4]: parts as point [2] tells them."""

    def test_each_sign(self):
        for sign in SIGNS:
            part = ("sign", sign)
            self.assertEqual(Grammar([("a", part)]).part("a"), part)

    def test_each_span(self):
        for at, first in enumerate(SIGNS):
            for last in [SIGNS[at], SIGNS[-1]]:
                part = ("span", first, last)
                self.assertEqual(Grammar([("a", part)]).part("a"), part)

    def test_each_sign_of_ascii_that_is_none(self):
        for number in range(128):
            if chr(number) not in SIGNS:
                self.refused(NoGrammar, [("a", ("sign", chr(number)))])
                self.refused(NoGrammar, [("a", ("span", chr(number), "~"))])
                self.refused(NoGrammar, [("a", ("span", "\t", chr(number)))])

    def test_parts_that_there_are(self):
        for part in [EMPTY, row(A), row(A, A, EMPTY), choice(A), choice(A, ANY, A), many(EMPTY),
                     many(many(A)), none_of(none_of(EMPTY)), rule("a"), row(A, rule("a")), ("span", "a", "a")]:
            with self.subTest(part=part):
                rules = [("b", part), ("a", ANY)]
                self.assertEqual(Grammar(rules).part("b"), part)

    def test_wide_parts(self):
        for kind in ["row", "or"]:
            part = (kind, tuple([A] * 3000))
            self.assertEqual(Grammar([("a", part)]).part("a"), part)

    def test_wrong_parts_at_the_top(self):
        for why in WRONG_PARTS:
            with self.subTest(why=why):
                self.refused(NoGrammar, [("a", WRONG_PARTS[why])])
                self.refused(NoGrammar, [("b", ANY), ("a", WRONG_PARTS[why])])
                self.refused(NoGrammar, [("a", WRONG_PARTS[why]), ("b", ANY)])

    def test_wrong_parts_within_others(self):
        for wrap in WRAPS:
            for why in WRONG_PARTS:
                with self.subTest(wrap=wrap, why=why):
                    self.refused(NoGrammar, [("a", WRAPS[wrap](WRONG_PARTS[why]))])
                    self.refused(NoGrammar, [("b", ANY), ("a", WRAPS[wrap](WRONG_PARTS[why]))])

    def test_wrong_part_as_deep_as_may_be(self):
        self.refused(NoGrammar, [("a", deep(12, ("sign", "ab")))])
        self.refused(NoGrammar, [("a", deep(12, ("or", ()), none_of))])


class WhichRules(Case):
    """Point [4]: NoRule."""

    def test_a_rule_that_is_not_there(self):
        for wrap in WRAPS:
            with self.subTest(wrap=wrap):
                self.refused(NoRule, [("a", WRAPS[wrap](rule("b")))])
                self.refused(NoRule, [("a", ANY), ("c", WRAPS[wrap](rule("b")))])
                self.refused(NoRule, [("c", WRAPS[wrap](rule("b"))), ("a", ANY)])
                Grammar([("a", WRAPS[wrap](rule("b"))), ("b", ANY)])
                Grammar([("b", ANY), ("a", WRAPS[wrap](rule("b")))])

    def test_at_the_top(self):
        self.refused(NoRule, [("a", rule("b"))])

    def test_as_deep_as_may_be(self):
        self.refused(NoRule, [("a", deep(12, rule("b")))])
        self.refused(NoRule, [("a", row(A, deep(11, rule("b"), none_of)))])

    def test_where_reading_never_comes_to_it(self):
        self.refused(NoRule, [("a", choice(EMPTY, rule("b")))])
        self.refused(NoRule, [("a", row(none_of(EMPTY), rule("b")))])

    def test_texts_that_are_no_names(self):
        for text in ["", "A", "a b", "1", "abcdefghijklm", "=", "\n", "\x25", "\xe4", "a "]:
            with self.subTest(text=text):
                self.refused(NoRule, [("a", rule(text))])
                self.refused(NoRule, [("a", row(ANY, many(rule(text))))])

    def test_behind_one_that_is_there(self):
        self.refused(NoRule, [("a", row(rule("b"), rule("c"))), ("b", ANY)])
        self.refused(NoRule, [("a", choice(rule("c"), rule("b"))), ("b", ANY)])


class TheOrder(Case):
    """Point [4]: NoGrammar, then NoRule, then Circling, wherever the faults stand."""

    ROUND = ("a", rule("a"))
    STRANGER = ("b", rule("zz"))

    def test_no_grammar_ahead_of_both(self):
        wrongs = [("C", ANY), ("c", ("sign", "ab")), ("c", deep(13)), ("a", ANY), ("c", ("or", ()))]
        for wrong in wrongs:
            for rules in [[self.ROUND, wrong], [self.STRANGER, self.ROUND, wrong], [self.ROUND, self.STRANGER, wrong]]:
                with self.subTest(rules=rules):
                    self.refused(NoGrammar, rules)
        for wrong in wrongs[:3] + wrongs[4:]:
            self.refused(NoGrammar, [wrong, self.STRANGER, self.ROUND])
        self.refused(NoGrammar, [("a", row(rule("zz"), ("sign", "")))])
        self.refused(NoGrammar, [("a", row(rule("a"), ("sign", "")))])

    def test_too_many_ahead_of_both(self):
        rules = [(name, rule(name)) for name in names_of(20)] + [(name, rule("q")) for name in names_of(41)[20:]]
        self.refused(NoGrammar, rules)
        self.refused(NoRule, rules[:40])
        self.refused(Circling, rules[:20])

    def test_no_rule_ahead_of_circling(self):
        self.refused(NoRule, [self.ROUND, self.STRANGER])
        self.refused(NoRule, [self.STRANGER, self.ROUND])
        self.refused(NoRule, [("a", row(rule("a"), rule("b")))])
        self.refused(Circling, [self.ROUND])


class WhatIsHandedIn(Case):
    """Points [1] and [4]: the list stays as it was, and no grammar hangs on it."""

    def test_stays_as_it_was(self):
        lists = [
            [("a", row(rule("b"), A)), ("b", many(ANY))],
            [],
            [("a", ANY), ("a", ANY)],
            [("A", ANY)],
            [("a", ("or", ()))],
            [("a", ("row", [ANY]))],
            [("a", deep(13))],
            [("a", rule("c"))],
            [("b", ANY), ("a", rule("a"))],
            [(name, ANY) for name in names_of(41)],
        ]
        for rules in lists:
            with self.subTest(rules=rules):
                kept = copy.deepcopy(rules)
                try:
                    Grammar(rules)
                except (NoGrammar, NoRule, Circling):
                    pass
                self.assertEqual(rules, kept)

    def test_may_be_emptied(self):
        rules = [("a", row(many(A), rule("b"))), ("b", EMPTY)]
        grammar = Grammar(rules)
        rules.clear()
        self.assertEqual(grammar.names(), ["a", "b"])
        self.assertEqual(grammar.part("a"), row(many(A), rule("b")))
        self.assertEqual(grammar.empties(), ["a", "b"])
        self.assertEqual(grammar.asked("a"), ["b"])
        rules.append(("c", ANY))
        self.assertEqual(grammar.names(), ["a", "b"])

    def test_lists_that_were_told_may_be_changed(self):
        grammar = Grammar([("a", row(many(A), rule("b"))), ("b", EMPTY)])
        for _ in range(2):
            for told in [grammar.names(), grammar.empties(), grammar.asked("a"), grammar.asked("b")]:
                told.append("zz")
                told.reverse()
            self.assertEqual(grammar.names(), ["a", "b"])
            self.assertEqual(grammar.empties(), ["a", "b"])
            self.assertEqual(grammar.asked("a"), ["b"])
            self.assertEqual(grammar.asked("b"), [])
            grammar.names().clear()
            grammar.empties().clear()
            grammar.asked("a").clear()
        with self.assertRaises(NoRule):
            grammar.part("zz")

    def test_grammars_do_not_hang_on_each_other(self):
        rules = [("a", EMPTY)]
        one = Grammar(rules)
        rules[0] = ("b", many(rule("c")))
        rules.append(("c", A))
        two = Grammar(rules)
        self.assertEqual((one.names(), one.empties()), (["a"], ["a"]))
        self.assertEqual((two.names(), two.empties(), two.asked("b")), (["b", "c"], ["b"], ["c"]))


class WhichMayBeEmpty(Case):
    """Point [5]."""

    def one(self, part, wanted, *others):
        with self.subTest(part=part):
            grammar = Grammar([("x", part), ("e", EMPTY), ("s", A)] + list(others))
            self.assertEqual("x" in grammar.empties(), wanted)

    def test_signs_never(self):
        for part in [A, ("span", "a", "z"), ("span", "\t", "~"), ANY]:
            self.one(part, False)

    def test_row_where_all_may(self):
        self.one(EMPTY, True)
        self.one(row(EMPTY), True)
        self.one(row(EMPTY, many(A), none_of(A)), True)
        self.one(row(A), False)
        self.one(row(A, EMPTY), False)
        self.one(row(EMPTY, A), False)
        self.one(row(EMPTY, A, EMPTY), False)
        self.one(row(rule("e"), rule("e")), True)
        self.one(row(rule("e"), rule("s")), False)
        self.one(row(rule("s"), rule("e")), False)

    def test_or_where_one_may(self):
        self.one(choice(EMPTY), True)
        self.one(choice(A, EMPTY), True)
        self.one(choice(EMPTY, A), True)
        self.one(choice(A, many(A), A), True)
        self.one(choice(A), False)
        self.one(choice(A, ANY, row(A, EMPTY)), False)
        self.one(choice(rule("s"), rule("e")), True)
        self.one(choice(rule("s"), rule("s")), False)
        # Nothing comes behind one that always fits, and yet the choice may.
        self.one(choice(ANY, none_of(ANY), A), True)

    def test_many_and_not_always(self):
        for inner in [A, ANY, EMPTY, rule("s"), rule("e"), row(A, A), choice(A)]:
            self.one(many(inner), True)
            self.one(none_of(inner), True)
            self.one(row(A, many(inner)), False)

    def test_rule_where_that_one_may(self):
        self.one(rule("e"), True)
        self.one(rule("s"), False)

    def test_by_way_of_others_whichever_stands_first(self):
        chain = [("a", rule("b")), ("b", row(rule("c"), rule("c"))), ("c", choice(A, rule("d"))), ("d", many(A)),
                 ("e", row(rule("a"), A))]
        for turn in range(5):
            rules = chain[turn:] + chain[:turn]
            names = [name for name, _ in rules if name != "e"]
            self.empties(rules, names)
            rules.reverse()
            names.reverse()
            self.empties(rules, names)

    def test_a_long_way(self):
        names = names_of(40)
        rules = [(name, rule(after)) for name, after in zip(names, names[1:])]
        self.empties(rules + [(names[39], EMPTY)], names)
        self.empties([(names[39], EMPTY)] + rules, [names[39]] + names[:39])
        self.empties([(names[39], EMPTY)] + rules[::-1], names[::-1])
        self.empties(rules + [(names[39], A)], [])

    def test_no_more_than_follow(self):
        self.empties([("a", row(A, rule("a")))], [])
        self.empties([("a", choice(A, row(A, rule("a"))))], [])
        self.empties([("a", row(A, rule("b"))), ("b", row(A, rule("a")))], [])
        self.empties([("a", choice(row(A, rule("a")), EMPTY)), ("b", row(rule("a"), A))], ["a"])

    def test_none_and_all(self):
        self.empties([("a", A), ("b", ANY)], [])
        self.empties([("b", EMPTY), ("a", many(A))], ["b", "a"])

    def test_in_the_grammars_order(self):
        self.empties([("z", rule("m")), ("b", A), ("m", rule("a")), ("a", EMPTY)], ["z", "m", "a"])

    def test_a_rule_that_asks_itself_alone_is_not_taken(self):
        self.refused(Circling, [("a", rule("a"))])


class WhichAreAskedAhead(Case):
    """Point [6]: what each part asks ahead."""

    # In this order stand p, q, r, s that take a sign, and e, f that may be empty.
    REST = [("p", A), ("q", A), ("r", A), ("s", A), ("e", EMPTY), ("f", many(A))]

    def one(self, part, wanted):
        with self.subTest(part=part):
            self.assertEqual(Grammar([("x", part)] + self.REST).asked("x"), wanted)
            self.assertEqual(Grammar(self.REST + [("x", part)]).asked("x"), wanted)

    def test_signs_none(self):
        for part in [A, ("span", "a", "b"), ANY, EMPTY]:
            self.one(part, [])

    def test_rule_itself(self):
        self.one(rule("p"), ["p"])
        self.one(rule("e"), ["e"])

    def test_not_those_that_a_rule_asks(self):
        grammar = Grammar([("x", rule("y")), ("y", rule("z")), ("z", A)])
        self.assertEqual(grammar.asked("x"), ["y"])
        self.assertEqual(grammar.asked("y"), ["z"])
        self.assertEqual(grammar.asked("z"), [])

    def test_or_what_any_does(self):
        self.one(choice(rule("p"), rule("q"), rule("e")), ["p", "q", "e"])
        self.one(choice(A, rule("q")), ["q"])
        self.one(choice(EMPTY, rule("q")), ["q"])
        self.one(choice(row(A, rule("p")), row(rule("q"), rule("r")), rule("s")), ["q", "s"])

    def test_many_and_not_what_theirs_does(self):
        for wrap in [many, none_of]:
            self.one(wrap(rule("p")), ["p"])
            self.one(wrap(A), [])
            self.one(wrap(row(rule("p"), rule("q"))), ["p"])
            self.one(wrap(row(A, rule("q"))), [])
            self.one(wrap(choice(rule("q"), rule("p"))), ["p", "q"])

    def test_row_the_first(self):
        self.one(row(rule("p")), ["p"])
        self.one(row(rule("p"), rule("q")), ["p"])
        self.one(row(A, rule("q")), [])
        self.one(row(A, rule("p"), rule("q")), [])

    def test_row_what_stands_behind_empty_ones(self):
        for ahead in [EMPTY, many(A), none_of(A), choice(A, EMPTY), row(EMPTY, many(A))]:
            self.one(row(ahead, rule("q")), ["q"])
            self.one(row(ahead, rule("q"), rule("r")), ["q"])
            self.one(row(ahead, A, rule("r")), [])
        self.one(row(rule("e"), rule("q"), rule("r")), ["q", "e"])
        self.one(row(rule("e"), rule("f"), rule("q"), rule("r")), ["q", "e", "f"])
        self.one(row(rule("e"), rule("p"), rule("f"), rule("r")), ["p", "e"])
        self.one(row(many(rule("p")), none_of(rule("q")), rule("r"), rule("s")), ["p", "q", "r"])
        self.one(row(row(rule("e"), rule("f")), rule("p"), rule("q")), ["p", "e", "f"])
        self.one(row(row(rule("e"), rule("p")), rule("q")), ["p", "e"])
        self.one(row(choice(rule("p"), rule("e")), rule("q")), ["p", "q", "e"])
        self.one(row(choice(rule("p"), rule("r")), rule("q")), ["p", "r"])

    def test_row_does_not_ask_again_behind_one_that_takes(self):
        self.one(row(EMPTY, A, EMPTY, rule("p")), [])
        self.one(row(rule("p"), EMPTY, rule("q")), ["p"])

    def test_each_once_in_the_grammars_order(self):
        self.one(choice(rule("s"), rule("q"), rule("s"), rule("p"), rule("q")), ["p", "q", "s"])
        self.one(row(rule("f"), rule("e"), rule("f"), rule("e")), ["e", "f"])
        self.one(row(rule("f"), rule("e"), rule("p")), ["p", "e", "f"])
        self.one(row(many(rule("q")), many(rule("p")), rule("q")), ["p", "q"])

    def test_order_is_the_grammars(self):
        rules = [("c", A), ("x", choice(rule("a"), rule("b"), rule("c"))), ("a", A), ("b", A)]
        self.assertEqual(Grammar(rules).asked("x"), ["c", "a", "b"])

    def test_empty_by_way_of_a_rule_that_stands_behind(self):
        rules = [("x", row(rule("y"), rule("z"))), ("y", rule("w")), ("z", A), ("w", EMPTY)]
        self.assertEqual(Grammar(rules).asked("x"), ["y", "z"])


class WhichGoRound(Case):
    """Point [6]: rings."""

    # Each asks the rule ahead that it is given.
    AHEAD = {
        "plain": lambda part: part,
        "row first": lambda part: row(part, A),
        "row alone": lambda part: row(part),
        "behind an empty row": lambda part: row(EMPTY, part),
        "behind many": lambda part: row(many(A), part),
        "behind not": lambda part: row(none_of(A), part),
        "behind a choice": lambda part: row(choice(A, EMPTY), part),
        "behind a rule": lambda part: row(rule("e"), part),
        "behind many things": lambda part: row(rule("e"), many(A), none_of(ANY), part, A),
        "behind a rule by way of others": lambda part: row(rule("far"), part),
        "or first": lambda part: choice(part, A),
        "or last": lambda part: choice(A, part),
        "or behind what always fits": lambda part: choice(EMPTY, part),
        "many": lambda part: many(part),
        "not": lambda part: none_of(part),
        "within": lambda part: many(choice(A, row(none_of(A), none_of(row(part, A))))),
    }
    # Each asks it behind a sign.
    BEHIND = {
        "behind a sign": lambda part: row(A, part),
        "behind a span": lambda part: row(("span", "a", "b"), part),
        "behind any": lambda part: row(ANY, part),
        "behind a rule": lambda part: row(rule("s"), part),
        "behind an empty one and a sign": lambda part: row(EMPTY, A, part),
        "behind a sign and an empty one": lambda part: row(A, EMPTY, part),
        "behind a choice of signs": lambda part: row(choice(A, ANY), part),
        "within": lambda part: many(choice(A, none_of(row(A, part)))),
        "not at all": lambda part: A,
    }
    REST = [("e", EMPTY), ("s", A), ("far", rule("by")), ("by", row(rule("e"), many(rule("s"))))]

    def ring(self, kind, rules):
        """The same, whatever order the rules stand in."""
        rules = rules + self.REST
        for turn in range(len(rules)):
            turned = rules[turn:] + rules[:turn]
            if kind is None:
                Grammar(turned)
            else:
                self.refused(kind, turned)

    def test_of_one(self):
        for why in self.AHEAD:
            with self.subTest(why=why):
                self.ring(Circling, [("a", self.AHEAD[why](rule("a")))])

    def test_of_two(self):
        for why in self.AHEAD:
            for other in self.AHEAD:
                with self.subTest(why=why, other=other):
                    self.ring(Circling, [("a", self.AHEAD[why](rule("b"))), ("b", self.AHEAD[other](rule("a")))])

    def test_of_three(self):
        for why in self.AHEAD:
            with self.subTest(why=why):
                self.ring(Circling, [("a", rule("b")), ("b", self.AHEAD[why](rule("c"))), ("c", row(rule("a"), A))])

    def test_of_forty(self):
        names = names_of(40)
        rules = [(name, rule(after)) for name, after in zip(names, names[1:] + names[:1])]
        self.refused(Circling, rules)
        self.refused(Circling, rules[::-1])
        rules[17] = (names[17], row(A, rule(names[18])))
        Grammar(rules)

    def test_that_other_rules_come_to(self):
        self.ring(Circling, [("x", rule("a")), ("a", rule("b")), ("b", rule("a"))])
        self.ring(Circling, [("x", row(A, rule("a"))), ("a", rule("a"))])
        self.ring(Circling, [("x", A), ("a", choice(A, rule("a")))])

    def test_that_leads_out_too(self):
        self.ring(Circling, [("a", choice(rule("s"), rule("b"))), ("b", choice(rule("e"), rule("a")))])

    def test_one_that_takes_a_sign_within_a_ring(self):
        for why in self.BEHIND:
            with self.subTest(why=why):
                self.ring(None, [("a", self.BEHIND[why](rule("a")))])
                self.ring(None, [("a", self.BEHIND[why](rule("b"))), ("b", rule("a"))])
                self.ring(None, [("a", rule("b")), ("b", rule("c")), ("c", self.BEHIND[why](rule("a")))])

    def test_no_ring_where_ways_part_and_meet(self):
        self.ring(None, [("a", choice(rule("b"), rule("c"))), ("b", rule("d")), ("c", rule("d")), ("d", A)])
        self.ring(None, [("a", row(rule("b"), rule("b"))), ("b", EMPTY)])

    def test_behind_a_rule_that_takes_a_sign(self):
        self.ring(None, [("a", row(rule("b"), rule("a"))), ("b", row(many(A), A))])
        self.ring(Circling, [("a", row(rule("b"), rule("a"))), ("b", row(many(A), many(A)))])


if __name__ == "__main__":
    unittest.main()
