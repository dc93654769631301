"""Grammars: rules with names, refused where they can't be read by."""

from grammarpack.checks import check_rules
from grammarpack.errors import Circling, NoRule
from grammarpack.following import empty_rules, go_round, names_within, rules_ahead


class Grammar:
    """Rules with names, in their order."""

    def __init__(self, rules):
        check_rules(rules)
        self._parts = {name: part for name, part in rules}
        for name in self._parts:
            self._refuse_strangers(name)
        self._empties = empty_rules(self._parts)
        self._ahead = rules_ahead(self._parts, self._empties)
        if go_round(self._ahead):
            raise Circling("a rule comes back to itself before a sign was taken")

    def names(self):
        """The names of the rules, in order."""
        return list(self._parts)

    def part(self, name):
        """The part of a rule."""
        self._refuse_stranger(name)
        return self._parts[name]

    def empties(self):
        """The names of the rules that may be empty, in the grammar's order."""
        return list(self._empties)

    def asked(self, name):
        """The names of the rules that a rule's part asks ahead, in the grammar's order."""
        self._refuse_stranger(name)
        return list(self._ahead[name])

    def _refuse_strangers(self, name):
        for other in names_within(self._parts[name]):
            self._refuse_stranger(other)

    def _refuse_stranger(self, name):
        if name not in self._parts:
            raise NoRule(f"no rule is called {name}")
