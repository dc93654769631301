"""Points [11] and [12]: grammars written as texts, read back, and texts that are otherwise."""

import unittest

from grammarpack import notes
from grammarpack.errors import Circling, GrammarError, NoGrammar, NoNotes, NoRule
from grammarpack.grammars import Grammar
from grammarpack.notes import grammar_of, shown
from tests.making import A, ANY, B, EMPTY, SIGNS, deep, names_of, none_of


def rules_of(grammar):
    return [(name, grammar.part(name)) for name in grammar.names()]


class TheInterface(unittest.TestCase):
    def test_is_defined_in_its_file(self):
        for told in [shown, grammar_of]:
            self.assertEqual(told.__module__, "grammarpack.notes")
            self.assertIs(getattr(notes, told.__name__), told)

    def test_may_be_passed_by_name(self):
        self.assertEqual(shown(grammar=Grammar([("a", ANY)])), "a = any")
        self.assertEqual(grammar_of(text="a = any").names(), ["a"])

    def test_kinds_of_what_is_told(self):
        self.assertIsInstance(shown(Grammar([("a", ANY)])), str)
        self.assertIsInstance(grammar_of("a = any"), Grammar)


class WhatIsWritten(unittest.TestCase):
    """Point [11]: word by word, and read back."""

    REST = [("b", B), ("zzzzzzzzzzzz", ANY)]

    def part(self, part, words):
        with self.subTest(part=part):
            text = "x = " + words + "\nb = sign 98\nzzzzzzzzzzzz = any"
            self.whole([("x", part)] + self.REST, text)

    def whole(self, rules, text):
        self.assertEqual(shown(Grammar(rules)), text)
        self.assertEqual(rules_of(grammar_of(text)), rules)
        self.assertEqual(shown(grammar_of(text)), text)

    def test_parts_of_one_sign(self):
        self.part(A, "sign 97")
        self.part(("span", "0", "9"), "span 48 57")
        self.part(("span", "a", "a"), "span 97 97")
        self.part(ANY, "any")

    def test_each_sign(self):
        for sign in SIGNS:
            number = str(ord(sign))
            self.part(("sign", sign), "sign " + number)
            self.part(("span", "\t", sign), "span 9 " + number)
            self.part(("span", sign, "~"), "span " + number + " 126")

    def test_signs_that_words_and_rows_are_parted_by(self):
        self.part(("row", (("sign", " "), ("sign", "\n"), ("sign", "\t"), ("sign", "="))),
                  "row 4 sign 32 sign 10 sign 9 sign 61")

    def test_rows_and_choices(self):
        self.part(EMPTY, "row 0")
        self.part(("row", (A,)), "row 1 sign 97")
        self.part(("row", (A, ANY, B)), "row 3 sign 97 any sign 98")
        self.part(("or", (A,)), "or 1 sign 97")
        self.part(("or", (ANY, EMPTY, A)), "or 3 any row 0 sign 97")

    def test_many_and_not(self):
        self.part(("many", A), "many sign 97")
        self.part(("not", A), "not sign 97")
        self.part(("many", ("not", ("many", EMPTY))), "many not many row 0")

    def test_rules(self):
        self.part(("rule", "b"), "rule b")
        self.part(("rule", "zzzzzzzzzzzz"), "rule zzzzzzzzzzzz")

    def test_parts_within_parts(self):
        self.part(
            ("row", (("or", (("row", (A, B)), ("many", ("row", (B, EMPTY))))), ("not", ("or", (ANY,))), ("rule", "b"))),
            "row 3 or 2 row 2 sign 97 sign 98 many row 2 sign 98 row 0 not or 1 any rule b",
        )
        self.part(("row", (("row", (("row", ()),)), ("row", ()))), "row 2 row 1 row 0 row 0")
        self.part(("row", (("row", (("row", ()), ("row", ()))),)), "row 1 row 2 row 0 row 0")
        self.part(("or", (("or", (A, B)), ANY)), "or 2 or 2 sign 97 sign 98 any")
        self.part(("or", (("or", (A,)), B, ANY)), "or 3 or 1 sign 97 sign 98 any")

    def test_as_deep_as_may_be(self):
        self.part(deep(12), "many " * 11 + "any")
        self.part(deep(12, EMPTY, none_of), "not " * 11 + "row 0")
        part = A
        for _ in range(11):
            part = ("row", (part, B))
        self.part(part, "row 2 " * 11 + "sign 97" + " sign 98" * 11)

    def test_numbers_of_several_figures(self):
        for count in [9, 10, 11, 99, 100, 101, 999, 1000, 9999]:
            for kind in ["row", "or"]:
                rules = [("x", (kind, (ANY,) * count))]
                self.whole(rules, "x = " + kind + " " + str(count) + " any" * count)

    def test_one_rule(self):
        self.whole([("a", ANY)], "a = any")

    def test_several_rules_in_their_order(self):
        self.whole(
            [("z", ("row", (A, ("rule", "a")))), ("m", ("many", ("rule", "z"))), ("a", ("span", " ", "~"))],
            "z = row 2 sign 97 rule a\nm = many rule z\na = span 32 126",
        )

    def test_forty_rules(self):
        names = names_of(40)
        self.whole([(name, ANY) for name in names], "\n".join(name + " = any" for name in names))

    def test_rules_called_as_words_are(self):
        names = ["any", "sign", "span", "row", "or", "many", "not", "rule"]
        rules = [(name, ("or", (A, ("row", (A, ("rule", name)))))) for name in names]
        text = "\n".join(name + " = or 2 sign 97 row 2 sign 97 rule " + name for name in names)
        self.whole(rules, text)

    def test_what_is_read_back_reads_alike(self):
        grammar = grammar_of("p = or 2 row 3 sign 40 rule p sign 41 rule e\ne = row 0")
        self.assertEqual(grammar.empties(), ["p", "e"])
        self.assertEqual(grammar.asked("p"), ["e"])

    def test_writing_changes_nothing(self):
        rules = [("a", ("row", (A, ("rule", "b")))), ("b", ANY)]
        grammar = Grammar(rules)
        self.assertEqual(shown(grammar), shown(grammar))
        self.assertEqual(rules_of(grammar), rules)


class Case(unittest.TestCase):
    def refused(self, kind, text):
        with self.subTest(text=text[:80]):
            with self.assertRaises(GrammarError) as caught:
                grammar_of(text)
            self.assertIs(caught.exception.__class__, kind)

    def no_row(self, text):
        """No row alone, ahead of others, behind others, nor beside what (4) refuses."""
        self.refused(NoNotes, text)
        self.refused(NoNotes, "y = any\n" + text)
        self.refused(NoNotes, text + "\ny = any")
        self.refused(NoNotes, "y = any\n" + text + "\nz = any")
        for fault in ["Y = any", "y = or 0", "y = rule qq", "y = rule y", "y = " + "not " * 12 + "any",
                      "y = span 98 97", "y = any\ny = any", "\n".join(["y = any"] * 41)]:
            self.refused(NoNotes, fault + "\n" + text)
            self.refused(NoNotes, text + "\n" + fault)

    def no_words(self, words):
        self.no_row("x = " + words)


class OtherRows(Case):
    """Point [12]: NoNotes."""

    def test_no_rows(self):
        self.no_row("")
        self.refused(NoNotes, "\n")
        self.refused(NoNotes, "x = any\n")
        self.refused(NoNotes, "\nx = any")
        self.refused(NoNotes, "x = any\n\ny = any")
        self.refused(NoNotes, "x = any\n ")

    def test_words_are_lacking_ahead(self):
        for text in ["x", "=", "x =", "any", "= any", "x any", "rule x", "sign 97"]:
            self.no_row(text)

    def test_another_word_for_equals(self):
        for text in ["x == any", "x : any", "x any =", "x := any", "x = = any", "x y = any", "x any any", "x - any",
                     "= x any"]:
            self.no_row(text)

    def test_blanks(self):
        for text in [" ", "  ", " x = any", "x = any ", "x  = any", "x =  any", "x = sign  97", "x= any", "x =any",
                     "x=any", "x = row 2 any  any", " = any", "x = sign 97 ", "x = rule ", "x = rule  x", "x = ",
                     "x = row 0 ", "  = any"]:
            self.no_row(text)

    def test_tabs_are_no_blanks(self):
        for text in ["x\t=\tany", "x =\tany", "x\t= any", "x = sign\t97", "x = any\t", "x = \tany", "x = row 0\t"]:
            self.no_row(text)

    def test_other_kinds_of_parts(self):
        for words in ["all", "Any", "ANY", "x", "97", "=", "many", "not", "sings 97", "a", "an", "anyy", "roww 0",
                      "or1 any", "many Any", "row 1 x", "or 2 any x", "not 97", "not 1 any", "many 1 any", "0", "y",
                      "many =", "row 1 ="]:
            self.no_words(words)

    def test_words_are_lacking(self):
        for words in ["sign", "span", "span 97", "row", "row 1", "row 2 any", "row 3 any any", "or", "or 1",
                      "or 2 any", "many", "not", "many not", "rule", "many rule", "row 2 any rule", "row 1 sign",
                      "row 2 sign 97", "row 2 row 1 any", "or 1 span 97", "row 9999 any", "many row 1",
                      "row 2 any row 1", "not sign", "row 1 span 97"]:
            self.no_words(words)

    def test_words_are_left_over(self):
        for words in ["any any", "any 97", "sign 97 98", "sign 97 any", "span 97 98 99", "row 0 any", "row 1 any any",
                      "or 1 any any", "many any any", "not any any", "rule y any", "rule y y", "row 0 row 0",
                      "row 1 row 0 row 0", "or 0 any", "any =", "any = any", "any x = any", "many rule y y",
                      "row 2 any any any", "many row 1 any any"]:
            self.no_words(words)

    def test_numbers_of_no_sign(self):
        for number in list(range(0, 9)) + list(range(11, 32)) + [37] + list(range(127, 140)) + [200, 255, 256, 999]:
            self.no_words(f"sign {number}")
            self.refused(NoNotes, f"x = span {number} 126")
            self.refused(NoNotes, f"x = span 9 {number}")
            self.refused(NoNotes, f"x = many span 97 {number}")
        for number in [1000, 9999]:
            self.no_words(f"sign {number}")

    def test_numbers_of_more_than_four_figures(self):
        for number in ["10000", "12345", "99999", "123456789", "9" * 100, "1" * 5000]:
            self.no_words("sign " + number)
            self.no_words("span " + number + " 97")
            self.no_words("span 97 " + number)
            self.no_words("row " + number)
            self.no_words("or " + number)
        self.refused(NoNotes, "x = row 10000" + " any" * 10000)
        self.refused(NoNotes, "x = or 10000" + " any" * 10000)

    def test_nought_ahead(self):
        for words in ["sign 097", "sign 0097", "span 097 98", "span 97 098", "row 00", "row 01 any", "or 01 any",
                      "or 00", "row 000", "row 0000", "row 0001 any", "row 00000", "sign 09", "sign 010"]:
            self.no_words(words)

    def test_words_that_are_no_numbers(self):
        for word in ["a", "97a", "a97", "+97", "-97", "9_7", "97.", "9.7", "0x61", "1e1", "-0", "+0", "=", "any",
                     "9-7", "\u0669\u0667", "\u00b2", "9\u0667", "97\t", "/", ":", "'a'"]:
            self.no_words("sign " + word)
            self.no_words("row " + word)
            self.no_words("or " + word + " any")
            self.no_words("span " + word + " 98")
            self.no_words("span 97 " + word)
        for sign in SIGNS:
            if sign not in "0123456789 \n":
                self.refused(NoNotes, "x = row 1" + sign + " any")
                self.refused(NoNotes, "x = sign " + sign + "9")
        for word in ["-1", "+1", "1.", "1_"]:
            self.no_words("row " + word + " any")

    def test_a_word_lacks_while_the_next_would_do(self):
        for words in ["sign any", "row any", "span any 97", "many row 1 many", "sign rule y", "rule row 0"]:
            self.no_words(words)


class WhatIsRefusedAsAGrammar(Case):
    """Point [12]: rows that are as told, and yet no grammar."""

    def test_words_that_are_no_names(self):
        for name in ["X", "x1", "1", "abcdefghijklm", "=", "x_y", "x-y", "xY", "97", ".", "x\t", "\t", "\u00e4", "x="]:
            self.refused(NoGrammar, name + " = any")
            self.refused(NoGrammar, "y = any\n" + name + " = any")
            self.refused(NoGrammar, name + " = any\ny = any")

    def test_the_same_name_twice(self):
        self.refused(NoGrammar, "x = any\nx = any")
        self.refused(NoGrammar, "x = any\ny = any\nx = sign 97")

    def test_or_of_nothing(self):
        for words in ["or 0", "many or 0", "row 2 any or 0", "or 1 or 0", "not row 2 or 0 or 0", "row 3 or 0 any any"]:
            self.refused(NoGrammar, "x = " + words)

    def test_span_that_goes_back(self):
        for words in ["span 98 97", "span 126 9", "span 10 9", "many span 98 97", "row 2 any span 98 97"]:
            self.refused(NoGrammar, "x = " + words)
        grammar_of("x = span 97 97")

    def test_too_deep(self):
        grammar_of("x = " + "not " * 11 + "any")
        for many_deep in [12, 13, 50, 300, 5000]:
            self.refused(NoGrammar, "x = " + "not " * many_deep + "any")
            self.refused(NoGrammar, "x = " + "many " * many_deep + "row 0")
            self.refused(NoGrammar, "x = " + "row 1 " * many_deep + "sign 97")
            self.refused(NoGrammar, "x = " + "or 1 " * many_deep + "rule x")
            self.refused(NoGrammar, "x = " + "row 2 any " * many_deep + "any")
            self.refused(NoGrammar, "x = " + "row 2 " * many_deep + "any" + " any" * many_deep)
            self.refused(NoNotes, "x = " + "not " * many_deep)
            self.refused(NoNotes, "x = " + "not " * many_deep + "any any")

    def test_too_many_rows(self):
        names = names_of(100)
        grammar_of("\n".join(name + " = any" for name in names[:40]))
        for count in [41, 42, 100]:
            rows = [name + " = any" for name in names[:count]]
            self.refused(NoGrammar, "\n".join(rows))
            self.refused(NoNotes, "\n".join(rows + ["x"]))
            self.refused(NoNotes, "\n".join(["x"] + rows))

    def test_rules_that_are_not_there(self):
        for words in ["rule y", "many rule y", "row 2 any rule y", "or 2 any rule y", "not rule xx"]:
            self.refused(NoRule, "x = " + words)
            self.refused(NoRule, "z = any\nx = " + words)

    def test_texts_that_are_no_names_in_the_place_of_one(self):
        for name in ["Y", "1", "=", "abcdefghijklm", "a_b", "97", "\u00e4"]:
            self.refused(NoRule, "x = rule " + name)
            self.refused(NoRule, "x = many rule " + name)

    def test_rings(self):
        self.refused(Circling, "x = rule x")
        self.refused(Circling, "x = row 2 many any rule y\ny = or 2 any rule x")
        grammar_of("x = row 2 any rule x")

    def test_order(self):
        self.refused(NoGrammar, "x = rule q\ny = rule y\nZ = any")
        self.refused(NoGrammar, "x = row 3 rule q rule x or 0")
        self.refused(NoRule, "y = rule y\nx = rule q")
        self.refused(NoRule, "x = row 2 rule x rule q")


if __name__ == "__main__":
    unittest.main()
