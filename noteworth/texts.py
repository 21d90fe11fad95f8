"""Signs and lines as texts: how they are written and read back."""

from noteworth.errors import BadSign, BadWord
from noteworth.signs import SILENT_KINDS, SOUNDING_KINDS, good, sounds
from noteworth.words import number_of

# The highest tone, 99, has two figures.
MOST_FIGURES = 2


def shown_sign(sign):
    """Return the word that writes a sign."""
    if not good(sign):
        # The words leave the tone out: Python refuses to show a number of very many figures.
        raise BadSign("only a good sign can be written")
    kind, tone = sign
    if sounds(sign):
        return f"{kind}{tone}"
    return kind


def shown_line(line):
    """Return the text that writes a line."""
    return " ".join([shown_sign(sign) for sign in line])


def sign_of(word):
    """Return the sign that a word writes, or None where it writes no good one."""
    if word in SILENT_KINDS:
        return (word, 0)
    kind = word[:1]
    tone = number_of(word[1:], MOST_FIGURES)
    if kind not in SOUNDING_KINDS or tone is None:
        return None
    return (kind, tone)


def read_sign(word):
    """Return the sign that a word writes."""
    sign = sign_of(word)
    if sign is None:
        raise BadWord(0)
    return sign


def read_line(text):
    """Return the line that a text writes."""
    line = []
    # Split by blanks, the empty text would be one empty word, but it writes the empty line.
    if text == "":
        return line
    for at, word in enumerate(text.split(" ")):
        sign = sign_of(word)
        if sign is None:
            raise BadWord(at)
        line.append(sign)
    return line
