"""What the tests make grammars of: short words for parts, names and signs."""

ANY = ("any",)
A = ("sign", "a")
B = ("sign", "b")
EMPTY = ("row", ())
LETTERS = "abcdefghijklmnopqrstuvwxyz"

# Point [1]: from the blank to ~, but the sign of per cent; line ends and tabs.
# They stand here in the order of ASCII.
SIGNS = ["\t", "\n"] + [chr(n) for n in range(32, 127) if n != 37]


def rule(name):
    return ("rule", name)


def row(*parts):
    return ("row", parts)


def choice(*parts):
    return ("or", parts)


def many(part):
    return ("many", part)


def none_of(part):
    return ("not", part)


def deep(many_deep, innermost=ANY, wrap=many):
    """A part so deep, where the innermost one is one deep."""
    part = innermost
    for _ in range(many_deep - 1):
        part = wrap(part)
    return part


def names_of(count):
    """So many names: aa, ab, ac .."""
    return [one + two for one in LETTERS for two in LETTERS][:count]
