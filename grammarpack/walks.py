"""The two ways through a text: with remembering and without."""

from grammarpack.errors import TooLong
from grammarpack.frames import RuleFrame, run, sign_end


class Remembering:
    """Begins each rule once at each place and keeps what came of it.

    Told are pairs (name, place): a rule that fitted, and no more those within it.
    """

    def __init__(self, grammar, text):
        self.grammar = grammar
        self.text = text
        self.frames = []
        self.told = []
        self.end = None
        self.order = []
        self.found = {}

    def walk(self, name, place):
        """The place behind what a rule takes, or None."""
        # What the question before this one told is not asked for any more.
        self.told = []
        self.ask_rule(name, place)
        return run(self)

    def ask_sign(self, part, place):
        """Answer for a sign, span or any."""
        self.end = sign_end(part, self.text, place)

    def ask_rule(self, name, place):
        """Answer for a rule that is kept; begin one that isn't."""
        if (name, place) in self.found:
            self.recall(name, place)
        else:
            self.order.append((name, place))
            self.frames.append(RuleFrame(name, place, len(self.told)))

    def close_rule(self, frame):
        """Keep what came of a rule, and answer for it."""
        kids = self.told[frame.mark:]
        del self.told[frame.mark:]
        self.found[(frame.name, frame.place)] = (self.end, kids)
        self.recall(frame.name, frame.place)

    def recall(self, name, place):
        """Answer for a rule by what is kept of it."""
        end, _ = self.found[(name, place)]
        self.end = end
        if end is not None:
            self.told.append((name, place))


class Plain:
    """Begins a rule each time that it is asked for, and counts the steps.

    Told are the rows of the tree as far as it fitted; a rule that was begun and hasn't
    answered yet stands there without its end.
    """

    def __init__(self, grammar, text, most):
        self.grammar = grammar
        self.text = text
        self.frames = []
        self.told = []
        self.end = None
        self.most = most
        self.steps = 0
        self.deep = 0

    def walk(self, name, place):
        """The rows of a rule's tree, or None."""
        self.ask_rule(name, place)
        if run(self) is None:
            return None
        return self.told

    def count_step(self):
        """Refuse one step more than most."""
        self.steps += 1
        if self.steps > self.most:
            raise TooLong(f"more than {self.most} steps are wanted")

    def ask_sign(self, part, place):
        """Answer for a sign, span or any."""
        self.count_step()
        self.end = sign_end(part, self.text, place)

    def ask_rule(self, name, place):
        """Begin a rule."""
        self.count_step()
        self.frames.append(RuleFrame(name, place, len(self.told)))
        self.told.append((self.deep, name, place, None))
        self.deep += 1

    def close_rule(self, frame):
        """Complete the row of a rule that fitted; take away that of one that didn't."""
        self.deep -= 1
        if self.end is None:
            del self.told[frame.mark:]
        else:
            self.told[frame.mark] = (self.deep, frame.name, frame.place, self.end)
