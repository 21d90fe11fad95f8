"""Steps that cost something: where unbarred signs lead, for the writer and for papers."""

from noteworth.prices import sign_price
from noteworth.reader import REST_TONE
from noteworth.signs import SOUNDING_KINDS
from noteworth.steps import step

PARTING_SIGNS = ((".", 0), ("3", 0), ("2", 0))
REST_SIGNS = (("R", 0), ("r", 0))


def moves(state, signs, worth, prices):
    """Return a triple (sign, cost, state) for each of the signs that isn't barred and leads somewhere."""
    found = []
    for sign in signs:
        cost = sign_price(sign, prices)
        to = step(state, sign, worth)
        if cost is not None and to is not None:
            found.append((sign, cost, to))
    return found


def parting_moves(state, prices):
    """Return the moves by a parting sign, which has the worth 0."""
    return moves(state, PARTING_SIGNS, 0, prices)


def wished_signs(tone):
    """Return the signs that have the tone of a wish."""
    if tone == REST_TONE:
        return REST_SIGNS
    return tuple([(kind, tone) for kind in SOUNDING_KINDS])


def wish_moves(state, wish, prices):
    """Return the moves by a sign with the tone and the worth of a wish."""
    tone, worth = wish
    return moves(state, wished_signs(tone), worth, prices)
