"""What signs and lines cost. Prices are a tuple of three: for a dot, for a dark note, for a measure sign."""

from noteworth.signs import MEASURE_KINDS

DARK_KINDS = ("D", "d")


def sign_price(sign, prices):
    """Return what a sign costs, or None where it is barred."""
    dot, dark, measure = prices
    if sign[0] == ".":
        return dot
    if sign[0] in DARK_KINDS:
        return dark
    if sign[0] in MEASURE_KINDS:
        return measure
    return 0


def price(line, prices):
    """Return the sum of what the signs of a line cost, or None where one of them is barred."""
    found = 0
    for sign in line:
        cost = sign_price(sign, prices)
        if cost is None:
            return None
        found += cost
    return found
