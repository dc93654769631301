"""The refusals of the program: one class for each kind."""


class GrammarError(ValueError):
    """Any refusal."""


class NoGrammar(GrammarError):
    """The count of the rules, a name or a part is not as a grammar's are."""


class NoRule(GrammarError):
    """A rule is asked for that the grammar doesn't have."""


class Circling(GrammarError):
    """Rules go round: one comes back to itself before a sign was taken."""


class OutOfPlace(GrammarError):
    """A place is below nought or behind the text's last one."""


class TooLong(GrammarError):
    """Reading without remembering wants more steps than it is given."""


class NoNotes(GrammarError):
    """A text is not a grammar as grammars are written."""
