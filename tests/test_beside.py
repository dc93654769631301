"""Reading, begun, entries, trees and steps beside a second program, on grammars made by number.

The second one follows points [2], [7], [8] and [10] by calls within calls.
"""

import unittest

from grammarpack.errors import GrammarError, TooLong
from grammarpack.grammars import Grammar
from grammarpack.notes import grammar_of, shown
from grammarpack.reading import Reading, plainly
from tests.making import A, ANY, B, EMPTY, SIGNS, choice, many, row, rule


class Oracle:
    """Reads short texts only: each part and each rule within is a call within a call."""

    def __init__(self, rules, text):
        self.parts = dict(rules)
        self.text = text
        self.kept = {}
        self.order = []
        self.steps = 0

    def part(self, part, place, ask):
        """Where it ends and what fitted within it; None where it doesn't fit."""
        kind = part[0]
        if kind in ("sign", "span", "any"):
            self.steps += 1
            signs = SIGNS if kind == "any" else SIGNS[SIGNS.index(part[1]):SIGNS.index(part[-1]) + 1]
            return (place + 1, []) if self.text[place:place + 1] in signs else None
        if kind == "rule":
            return ask(part[1], place)
        if kind == "not":
            return (place, []) if self.part(part[1], place, ask) is None else None
        if kind == "or":
            for inner in part[1]:
                told = self.part(inner, place, ask)
                if told is not None:
                    return told
            return None
        kids = []
        if kind == "row":
            for inner in part[1]:
                told = self.part(inner, place, ask)
                if told is None:
                    return None
                place = told[0]
                kids = kids + told[1]
            return place, kids
        while True:
            told = self.part(part[1], place, ask)
            if told is None or told[0] == place:
                return place, kids
            place = told[0]
            kids = kids + told[1]

    def keep(self, name, place):
        if (name, place) not in self.kept:
            self.order.append((name, place))
            told = self.part(self.parts[name], place, self.keep)
            self.kept[name, place] = (None, []) if told is None else told
        end, _ = self.kept[name, place]
        return None if end is None else (end, [(name, place)])

    def entries(self):
        return [(name, place) + tuple(self.kept[name, place]) for name, place in self.order]

    def plain(self, name, place):
        """Kids are whole trees here: (name, place, end, kids)."""
        self.steps += 1
        told = self.part(self.parts[name], place, self.plain)
        return None if told is None else (told[0], [(name, place, told[0], told[1])])


def lines(tree, at=0):
    name, place, end, kids = tree
    return [(at, name, place, end)] + [line for kid in kids for line in lines(kid, at + 1)]


class Numbers:
    """Numbers that seem to come by chance, the same ones at each run on each Python."""

    def __init__(self, start):
        self.now = start

    def below(self, limit):
        self.now = (self.now * 6364136223846793005 + 1442695040888963407) & (2 ** 64 - 1)
        return (self.now >> 33) % limit


def made_part(numbers, names, left):
    kind = numbers.below(13) if left > 1 else numbers.below(6)
    if kind == 0:
        return ANY
    if kind == 1:
        return ("span", "a", "b")
    if kind == 2:
        return ("sign", "abc"[numbers.below(3)])
    if kind < 6:
        return EMPTY if numbers.below(6) == 0 else rule(names[numbers.below(len(names))])
    if kind < 9:
        return ("row", tuple(made_part(numbers, names, left - 1) for _ in range(1 + numbers.below(3))))
    if kind < 11:
        return ("or", tuple(made_part(numbers, names, left - 1) for _ in range(1 + numbers.below(3))))
    return ("many" if kind == 11 else "not", made_part(numbers, names, left - 1))


def made_rule(numbers, names, at):
    """Mostly one that asks just later rules ahead, so that few grammars go round."""
    later = names[at + 1:]
    ahead = made_part(numbers, later, 4) if later else choice(A, ("span", "b", "c"))
    if numbers.below(8) == 0:
        ahead = made_part(numbers, names, 4)
    behind = made_part(numbers, names, 4)
    if numbers.below(2) == 0:
        return (names[at], choice(row(A, behind, rule(names[-1])), row(ahead, many(row(B, behind))), ahead))
    return (names[at], row(ahead, many(row(ANY, behind))))


class BesideTheOracle(unittest.TestCase):
    def made(self, numbers):
        """A grammar and a text; one grammar of several that are tried goes round and is left out."""
        while True:
            names = ["p", "q", "r", "s"][:1 + numbers.below(4)]
            rules = [made_rule(numbers, names, at) for at in range(len(names))]
            text = "".join("aaabbc"[numbers.below(6)] for _ in range(numbers.below(12)))
            try:
                return rules, Grammar(rules), text
            except GrammarError:
                continue

    def test_reads_alike(self):
        numbers = Numbers(1)
        for _ in range(4000):
            rules, grammar, text = self.made(numbers)
            one, oracle = Reading(grammar, text), Oracle(rules, text)
            for _ in range(3):
                name, place = rules[numbers.below(len(rules))][0], numbers.below(len(text) + 1)
                told = oracle.keep(name, place)
                self.assertEqual(one.read(name, place), None if told is None else told[0], (rules, text, name, place))
                self.assertEqual(one.begun(), oracle.order, (rules, text))
                self.assertEqual(one.entries(), oracle.entries(), (rules, text))

    def test_plainly_alike(self):
        numbers = Numbers(2)
        told_some = 0
        for _ in range(4000):
            rules, grammar, text = self.made(numbers)
            name, place = rules[numbers.below(len(rules))][0], numbers.below(len(text) + 1)
            oracle = Oracle(rules, text)
            told = oracle.plain(name, place)
            wanted = None if told is None else lines(told[1][0])
            told_some += wanted is not None and len(wanted) > 2
            self.assertEqual(plainly(grammar, text, name, place, oracle.steps), wanted, (rules, text, name, place))
            self.assertEqual(Reading(grammar, text).tree(name, place), wanted, (rules, text, name, place))
            with self.assertRaises(TooLong):
                plainly(grammar, text, name, place, oracle.steps - 1)
        # The trees that are compared are not all of one row.
        self.assertGreater(told_some, 100)

    def test_written_and_read_back_alike(self):
        numbers = Numbers(3)
        for _ in range(500):
            rules, grammar, _ = self.made(numbers)
            back = grammar_of(shown(grammar))
            self.assertEqual([(name, back.part(name)) for name in back.names()], rules)


if __name__ == "__main__":
    unittest.main()
