"""What follows from rules: which they ask, which may be empty, whether they go round.

The rules are given as a dict of names and parts, in the grammar's order.
"""

from grammarpack.parts import TAKERS, right_within


def names_within(part):
    """The names of the rules that a part asks, at whatever depth."""
    if part[0] == "rule":
        return [part[1]]
    names = []
    for inner in right_within(part):
        names.extend(names_within(inner))
    return names


def may_be_empty(part, empties):
    """Tell whether a part may be empty, where just the rules in empties may."""
    kind = part[0]
    if kind in TAKERS:
        return False
    if kind == "rule":
        return part[1] in empties
    if kind == "row":
        return all([may_be_empty(inner, empties) for inner in part[1]])
    if kind == "or":
        return any([may_be_empty(inner, empties) for inner in part[1]])
    # What is left is many and not.
    return True


def empty_rules(parts):
    """The names of the rules that may be empty, in the grammar's order."""
    empties = {}
    before = -1
    # A rule may be empty by way of one that stands behind it: so the list is gone
    # through again until nothing new is found.
    while len(empties) > before:
        before = len(empties)
        for name, part in parts.items():
            if may_be_empty(part, empties):
                empties[name] = True
    return [name for name in parts if name in empties]


def names_ahead(part, empties):
    """The names of the rules that a part asks ahead; one may stand there twice."""
    if part[0] == "rule":
        return [part[1]]
    names = []
    for inner in right_within(part):
        names.extend(names_ahead(inner, empties))
        if part[0] == "row" and not may_be_empty(inner, empties):
            break
    return names


def rules_ahead(parts, empties):
    """For each rule the names of those that it asks ahead, each once, in the grammar's order."""
    ahead = {}
    for name, part in parts.items():
        found = {other: True for other in names_ahead(part, empties)}
        ahead[name] = [other for other in parts if other in found]
    return ahead


def go_round(ahead):
    """Tell whether some rule comes back to itself by the rules that are asked ahead."""
    left = list(ahead)
    before = len(left) + 1
    # A rule that asks no rule of those left ahead is in no ring; where none can be
    # taken away any more, what is left goes round.
    while len(left) < before:
        before = len(left)
        left = [name for name in left if any([other in left for other in ahead[name]])]
    return len(left) > 0
