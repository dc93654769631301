"""Reading by parts, with a pile of frames instead of calls within calls.

A frame is a part, or a rule, that waits for the answer of one within it. The frames lie
on a pile of their own because a text may be longer than Python's calls go deep.

A walk is what reads: it has the frames, the newest answer (end: the place behind what
was taken, or None) and what fitted so far (told), and answers for signs and rules. What
doesn't fit leaves told as it was.
"""

from grammarpack.parts import TAKERS, takes


def run(walk):
    """Go on until no frame waits any more, and tell the last answer."""
    while len(walk.frames) > 0:
        frame = walk.frames[-1]
        frame.go_on(walk)
    return walk.end


def ask(walk, part, place):
    """Ask a part at a place: it is answered at once, or a frame is laid that will answer."""
    kind = part[0]
    if kind in TAKERS:
        walk.ask_sign(part, place)
    elif kind == "rule":
        walk.ask_rule(part[1], place)
    elif kind == "row":
        walk.frames.append(RowFrame(part[1], place, len(walk.told)))
    elif kind == "or":
        walk.frames.append(OrFrame(part[1], place))
    elif kind == "many":
        walk.frames.append(ManyFrame(part[1], place))
    else:
        walk.frames.append(NotFrame(part[1], place, len(walk.told)))


def sign_end(part, text, place):
    """The place behind the sign that a sign, span or any takes, None where it takes none."""
    if place < len(text) and takes(part, text[place]):
        return place + 1
    return None


class RuleFrame:
    """A rule that was begun. What is told from mark on fitted within it."""

    def __init__(self, name, place, mark):
        self.name = name
        self.place = place
        self.mark = mark
        self.waits = False

    def go_on(self, walk):
        """Ask the rule's part; when it has answered, leave the rest to the walk."""
        if self.waits:
            walk.frames.pop()
            walk.close_rule(self)
        else:
            self.waits = True
            ask(walk, walk.grammar.part(self.name), self.place)


class RowFrame:
    """A row of which the first parts, as many as at tells, were asked."""

    def __init__(self, parts, place, mark):
        self.parts = parts
        self.place = place
        self.mark = mark
        self.at = 0

    def go_on(self, walk):
        """Ask the next part behind what was taken, up to one that doesn't fit."""
        if self.at > 0:
            self.place = walk.end
        if self.place is None:
            del walk.told[self.mark:]
            walk.frames.pop()
        elif self.at == len(self.parts):
            walk.end = self.place
            walk.frames.pop()
        else:
            self.at += 1
            ask(walk, self.parts[self.at - 1], self.place)


class OrFrame:
    """A choice of which the first parts, as many as at tells, were asked."""

    def __init__(self, parts, place):
        self.parts = parts
        self.place = place
        self.at = 0

    def go_on(self, walk):
        """Ask the next part, up to one that fits; the last one's answer is the choice's."""
        if self.at == len(self.parts) or (self.at > 0 and walk.end is not None):
            walk.frames.pop()
        else:
            self.at += 1
            ask(walk, self.parts[self.at - 1], self.place)


class ManyFrame:
    """Turns of a part. The one that is asked began at place, with mark told ahead of it."""

    def __init__(self, inner, place):
        self.inner = inner
        self.place = place
        self.mark = 0
        self.waits = False

    def go_on(self, walk):
        """Ask one more turn, until one doesn't fit or takes no sign."""
        if self.waits and (walk.end is None or walk.end == self.place):
            del walk.told[self.mark:]
            walk.end = self.place
            walk.frames.pop()
            return
        if self.waits:
            self.place = walk.end
        self.waits = True
        self.mark = len(walk.told)
        ask(walk, self.inner, self.place)


class NotFrame:
    """A part that is not to fit. What is told from mark on fitted within it."""

    def __init__(self, inner, place, mark):
        self.inner = inner
        self.place = place
        self.mark = mark
        self.waits = False

    def go_on(self, walk):
        """Ask the part, and turn its answer round."""
        if self.waits:
            del walk.told[self.mark:]
            walk.end = self.place if walk.end is None else None
            walk.frames.pop()
        else:
            self.waits = True
            ask(walk, self.inner, self.place)
