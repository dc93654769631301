"""Notes: grammars written as texts, and read back."""

from grammarpack.errors import NoNotes
from grammarpack.grammars import Grammar
from grammarpack.parts import SIGNS, right_within

FIGURES = "0123456789"
MOST_FIGURES = 4


def shown(grammar):
    """A grammar written as a text, a row for each rule."""
    return "\n".join([row_of(name, grammar.part(name)) for name in grammar.names()])


def row_of(name, part):
    """The row that writes a rule."""
    return " ".join([name, "="] + words_of(part))


def words_of(part):
    """The words that write a part."""
    kind = part[0]
    if kind == "rule":
        return [kind, part[1]]
    if kind in ("sign", "span"):
        return [kind] + [str(ord(sign)) for sign in part[1:]]
    words = [kind]
    if kind in ("row", "or"):
        words.append(str(len(part[1])))
    for inner in right_within(part):
        words.extend(words_of(inner))
    return words


def grammar_of(text):
    """The grammar that a text writes."""
    signs = {ord(sign): sign for sign in SIGNS}
    # All rows are read ahead of the grammar, so that NoNotes comes first.
    rules = [rule_of(row, signs) for row in text.split("\n")]
    return Grammar(rules)


def rule_of(row, signs):
    """The name and the part that a row writes."""
    words = row.split(" ")
    if "" in words:
        raise NoNotes("a row has a blank too many, or no words")
    if len(words) < 2 or words[1] != "=":
        raise NoNotes("a row has no = behind its first word")
    return (words[0], PartWords(words[2:], signs).whole_part())


class Unfinished:
    """A part of which some parts within are still to be read."""

    def __init__(self, kind, wanted):
        self.kind = kind
        self.wanted = wanted
        self.parts = []

    def finished(self):
        """The part, when all within it are read."""
        if self.kind in ("many", "not"):
            return (self.kind, self.parts[0])
        return (self.kind, tuple(self.parts))


class PartWords:
    """The words of one part, read from the first to the last.

    Unfinished parts wait on a pile: words may write a part that is far too deep, and
    that is for the grammar to refuse.
    """

    def __init__(self, words, signs):
        self.words = words
        self.signs = signs
        self.at = 0
        self.waiting = []

    def whole_part(self):
        """The part that all of the words write."""
        part = self.next_part()
        while len(self.waiting) > 0:
            if part is None:
                part = self.next_part()
            else:
                part = self.put(part)
        if self.at < len(self.words):
            raise NoNotes("words are left over")
        return part

    def next_part(self):
        """The part that the next words write, None where parts within it are to come."""
        kind = self.next_word()
        if kind == "any":
            return (kind,)
        if kind == "sign":
            return (kind, self.next_sign())
        if kind == "span":
            first = self.next_sign()
            return (kind, first, self.next_sign())
        if kind == "rule":
            return (kind, self.next_word())
        if kind in ("many", "not"):
            return self.begin(kind, 1)
        if kind in ("row", "or"):
            return self.begin(kind, self.next_number())
        raise NoNotes(f"no part is called {kind}")

    def begin(self, kind, wanted):
        """Lay an unfinished part on the pile; one that wants no parts is told at once."""
        unfinished = Unfinished(kind, wanted)
        if wanted == 0:
            return unfinished.finished()
        self.waiting.append(unfinished)
        return None

    def put(self, part):
        """Put a part into the one that waits for it, and tell that one if it is whole now."""
        unfinished = self.waiting[-1]
        unfinished.parts.append(part)
        if len(unfinished.parts) < unfinished.wanted:
            return None
        self.waiting.pop()
        return unfinished.finished()

    def next_word(self):
        """The next word."""
        if self.at == len(self.words):
            raise NoNotes("words are lacking")
        self.at += 1
        return self.words[self.at - 1]

    def next_sign(self):
        """The sign whose number the next word is."""
        number = self.next_number()
        if number not in self.signs:
            raise NoNotes(f"{number} is the number of no sign")
        return self.signs[number]

    def next_number(self):
        """The number that the next word is."""
        word = self.next_word()
        if not is_number(word):
            raise NoNotes(f"{word} is no number as numbers are written")
        return int(word)


def is_number(word):
    """Tell whether a word is a number: few figures, no nought ahead of others."""
    if len(word) > MOST_FIGURES or not all([figure in FIGURES for figure in word]):
        return False
    return word == "0" or word[0] != "0"
