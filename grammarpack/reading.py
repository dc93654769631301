"""Reading a text by the rules of a grammar: where they end and what fitted within them."""

from grammarpack.errors import OutOfPlace
from grammarpack.walks import Plain, Remembering


class Reading:
    """A text that is read by a grammar. What was read once is kept."""

    def __init__(self, grammar, text):
        self._grammar = grammar
        self._text = text
        self._kept = Remembering(grammar, text)

    def read(self, name, place):
        """The place behind what a rule takes at a place, or None where it doesn't fit."""
        check_question(self._grammar, self._text, name, place)
        return self._kept.walk(name, place)

    def tree(self, name, place):
        """The rows (deep, name, begin, end) of a rule, or None where it doesn't fit."""
        if self.read(name, place) is None:
            return None
        return tree_rows(self._kept.found, name, place)

    def begun(self):
        """The pairs (name, place) of the rules that were begun, in order."""
        return list(self._kept.order)

    def entries(self):
        """The entries (name, place, end, kids) of the rules that were begun, in order."""
        rows = []
        for name, place in self._kept.order:
            end, kids = self._kept.found[(name, place)]
            rows.append((name, place, end, list(kids)))
        return rows


def plainly(grammar, text, name, place, most):
    """The rows of a rule, or None, read without remembering in most steps at most."""
    check_question(grammar, text, name, place)
    return Plain(grammar, text, most).walk(name, place)


def check_question(grammar, text, name, place):
    """Refuse a name that no rule has, then a place that the text doesn't have."""
    # The grammar itself refuses the name.
    grammar.part(name)
    if not 0 <= place <= len(text):
        raise OutOfPlace(f"the places of this text are 0 to {len(text)}")


def tree_rows(found, name, place):
    """The rows of a rule that fitted, by what was found of it and of those within it."""
    rows = []
    waiting = [(0, name, place)]
    while len(waiting) > 0:
        deep, rule, begin = waiting.pop()
        end, kids = found[(rule, begin)]
        rows.append((deep, rule, begin, end))
        # The first kid is to be the next one that is taken from the pile.
        for kid, at in reversed(kids):
            waiting.append((deep + 1, kid, at))
    return rows
