"""Parts of rules: which of them take which sign."""


def takes(part, sign):
    """Tell whether a sign, span or any takes a sign."""
    kind = part[0]
    if kind == "any":
        return True
    if kind == "sign":
        return sign == part[1]
    # What is left is a span; strings compare by the order of ASCII.
    return part[1] <= sign <= part[2]
