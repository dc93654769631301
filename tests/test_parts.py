"""Point [2], its first three parts: which sign a sign, a span and any take."""

import copy
import unittest

from grammarpack.parts import takes

# Point [1]: from the blank to ~, but the sign of per cent; line ends and tabs.
# They stand here in the order of ASCII.
SIGNS = ["\t", "\n"] + [chr(n) for n in range(32, 127) if n != 37]


class Case(unittest.TestCase):
    def check(self, part, sign, wanted):
        """True or False itself: neither 1 nor 0 nor anything else will do."""
        with self.subTest(part=part, sign=sign):
            self.assertIs(takes(part, sign), wanted)


class TheSign(Case):
    def test_takes_itself(self):
        for sign in SIGNS:
            self.check(("sign", sign), sign, True)

    def test_takes_no_other(self):
        for own in SIGNS:
            for sign in SIGNS:
                if sign != own:
                    self.assertIs(takes(("sign", own), sign), False, (own, sign))

    def test_not_its_neighbours(self):
        self.check(("sign", "b"), "a", False)
        self.check(("sign", "b"), "c", False)
        self.check(("sign", "0"), "/", False)
        self.check(("sign", "0"), "1", False)
        self.check(("sign", "~"), "}", False)
        self.check(("sign", " "), "!", False)
        self.check(("sign", "\t"), "\n", False)
        self.check(("sign", "\n"), "\t", False)

    def test_small_and_great_letters_differ(self):
        for small in "abcdefghijklmnopqrstuvwxyz":
            self.check(("sign", small), small.upper(), False)
            self.check(("sign", small.upper()), small, False)

    def test_blank_tab_and_line_end_differ(self):
        for own in " \t\n":
            for sign in " \t\n":
                self.check(("sign", own), sign, own == sign)


class TheSpan(Case):
    def test_first_last_and_between(self):
        for sign in "bcdefg":
            self.check(("span", "b", "g"), sign, True)

    def test_one_before_and_one_behind(self):
        self.check(("span", "b", "g"), "a", False)
        self.check(("span", "b", "g"), "h", False)
        self.check(("span", "0", "9"), "/", False)
        self.check(("span", "0", "9"), ":", False)

    def test_far_off(self):
        for sign in "\t\n Az~":
            self.check(("span", "b", "g"), sign, False)

    def test_small_and_great_letters_differ(self):
        self.check(("span", "a", "z"), "M", False)
        self.check(("span", "A", "Z"), "m", False)

    def test_order_is_that_of_ascii(self):
        for sign in "AZ[\\]^_`az":
            self.check(("span", "A", "z"), sign, True)
        self.check(("span", "A", "z"), "@", False)
        self.check(("span", "A", "z"), "{", False)

    def test_of_one_sign(self):
        for at, own in enumerate(SIGNS):
            part = ("span", own, own)
            self.check(part, own, True)
            if at > 0:
                self.check(part, SIGNS[at - 1], False)
            if at < len(SIGNS) - 1:
                self.check(part, SIGNS[at + 1], False)

    def test_ends_that_are_no_letters(self):
        self.check(("span", " ", "/"), " ", True)
        self.check(("span", " ", "/"), "/", True)
        self.check(("span", " ", "/"), "\n", False)
        self.check(("span", " ", "/"), "0", False)
        self.check(("span", "{", "~"), "~", True)
        self.check(("span", "{", "~"), "{", True)
        self.check(("span", "{", "~"), "z", False)
        self.check(("span", "{", "}"), "~", False)

    def test_ends_that_are_line_end_and_tab(self):
        self.check(("span", "\t", "\n"), "\t", True)
        self.check(("span", "\t", "\n"), "\n", True)
        self.check(("span", "\t", "\n"), " ", False)
        self.check(("span", "\n", " "), "\n", True)
        self.check(("span", "\n", " "), " ", True)
        self.check(("span", "\n", " "), "\t", False)
        self.check(("span", "\n", " "), "!", False)

    def test_of_all_signs(self):
        for sign in SIGNS:
            self.check(("span", "\t", "~"), sign, True)

    def test_every_span_at_every_sign(self):
        for first in range(len(SIGNS)):
            for last in range(first, len(SIGNS)):
                part = ("span", SIGNS[first], SIGNS[last])
                for at, sign in enumerate(SIGNS):
                    wanted = at in range(first, last + 1)
                    if takes(part, sign) is not wanted:
                        self.fail(f"{part} at {sign!r} should be {wanted}")


class TheAny(Case):
    def test_takes_every_sign(self):
        for sign in SIGNS:
            self.check(("any",), sign, True)

    def test_takes_each_kind_of_sign(self):
        for sign in "aZ05 ~!_\t\n":
            self.check(("any",), sign, True)


class WhatIsHandedIn(Case):
    def test_is_as_before(self):
        for part in [("sign", "a"), ("span", "a", "c"), ("any",)]:
            for sign in "abz":
                with self.subTest(part=part, sign=sign):
                    kept = copy.deepcopy((part, sign))
                    takes(part, sign)
                    self.assertEqual((part, sign), kept)

    def test_answers_do_not_hang_on_earlier_ones(self):
        self.check(("sign", "a"), "a", True)
        self.check(("sign", "b"), "a", False)
        self.check(("any",), "a", True)
        self.check(("span", "b", "c"), "a", False)
        self.check(("sign", "a"), "a", True)

    def test_may_be_passed_by_name(self):
        self.assertIs(takes(part=("sign", "a"), sign="a"), True)
        self.assertIs(takes(sign="b", part=("sign", "a")), False)


class WhereItStands(unittest.TestCase):
    def test_is_defined_in_its_file(self):
        self.assertEqual(takes.__module__, "grammarpack.parts")


if __name__ == "__main__":
    unittest.main()
