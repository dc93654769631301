"""Parts of rules: which signs there are, what stands within a part, what takes a sign."""

# Every sign that texts are made of, in the order of ASCII; the one with number 37 is none.
SIGNS = "\t\n !\"#$&'()*+,-./0123456789:;<=>?@ABCDEFGHIJKLMNOPQRSTUVWXYZ[\\]^_`abcdefghijklmnopqrstuvwxyz{|}~"

# The parts that take one sign.
TAKERS = ("sign", "span", "any")


def takes(part, sign):
    """Tell whether a sign, span or any takes a sign."""
    kind = part[0]
    if kind == "any":
        return True
    if kind == "sign":
        return sign == part[1]
    # What is left is a span; strings compare by the order of ASCII.
    return part[1] <= sign <= part[2]


def right_within(part):
    """The parts that stand right within a part, in their order, as a tuple."""
    kind = part[0]
    if kind in ("row", "or"):
        return part[1]
    if kind in ("many", "not"):
        return (part[1],)
    return ()
