"""The first refusals of a grammar: its count of rules, their names and their parts."""

from grammarpack.errors import NoGrammar
from grammarpack.parts import SIGNS, right_within

LETTERS = "abcdefghijklmnopqrstuvwxyz"
MOST_RULES = 40
MOST_LETTERS = 12
DEEPEST = 12


def check_rules(rules):
    """Refuse rules whose count, some name or some part is otherwise than told."""
    if not 1 <= len(rules) <= MOST_RULES:
        raise NoGrammar(f"a grammar has 1 to {MOST_RULES} rules")
    seen = {}
    for rule in rules:
        if not isinstance(rule, tuple) or len(rule) != 2:
            raise NoGrammar("a rule is a pair of a name and a part")
        name, part = rule
        if not is_name(name):
            raise NoGrammar(f"a name has 1 to {MOST_LETTERS} small letters")
        if name in seen:
            raise NoGrammar(f"two rules are called {name}")
        seen[name] = True
        check_part(part, DEEPEST)


def is_name(name):
    """Tell whether a rule may be called so."""
    if not isinstance(name, str) or not 1 <= len(name) <= MOST_LETTERS:
        return False
    return all([letter in LETTERS for letter in name])


def check_part(part, left):
    """Refuse what is no part, and a part that is more than left deep."""
    # The bound is asked first, so that no part is followed deeper than parts may be.
    if left == 0:
        raise NoGrammar(f"a part is more than {DEEPEST} deep")
    if not is_formed(part):
        raise NoGrammar("a part is otherwise than parts are")
    for inner in right_within(part):
        check_part(inner, left - 1)


def is_formed(part):
    """Tell whether a part is as told, but for the parts within it."""
    if not isinstance(part, tuple) or len(part) == 0:
        return False
    kind = part[0]
    if kind == "any":
        return len(part) == 1
    if kind == "span":
        return len(part) == 3 and is_sign(part[1]) and is_sign(part[2]) and part[1] <= part[2]
    if len(part) != 2:
        return False
    if kind == "sign":
        return is_sign(part[1])
    if kind == "rule":
        return isinstance(part[1], str)
    if kind == "row":
        return isinstance(part[1], tuple)
    if kind == "or":
        return isinstance(part[1], tuple) and len(part[1]) > 0
    return kind in ("many", "not")


def is_sign(sign):
    """Tell whether it is one sign of those that texts are made of."""
    return isinstance(sign, str) and len(sign) == 1 and sign in SIGNS
