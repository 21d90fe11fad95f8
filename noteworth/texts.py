"""Signs and lines as texts: how they are written and read back."""

from noteworth.errors import BadSign, BadWord
from noteworth.signs import SILENT_KINDS, SOUNDING_KINDS, good, sounds

FIGURES = ("0", "1", "2", "3", "4", "5", "6", "7", "8", "9")

# The highest tone, 99, has two figures.
MOST_FIGURES = 2


def shown_sign(sign):
    """Return the word that writes a sign."""
    if not good(sign):
        # The words leave the tone out: Python refuses to show a number of very many figures.
        raise BadSign("only a good sign can be written")
    kind, tone = sign
    if sounds(sign):
        return f"{kind}{tone}"
    return kind


def shown_line(line):
    """Return the text that writes a line."""
    return " ".join([shown_sign(sign) for sign in line])


def tone_of(figures):
    """Return the tone that a text of figures writes, or None where it writes none."""
    # The length is asked first: Python refuses to read a number of very many figures.
    if not 1 <= len(figures) <= MOST_FIGURES:
        return None
    # Each sign is asked by itself: int alone would take blanks, "+", "-" and "_" too.
    if any([figure not in FIGURES for figure in figures]):
        return None
    if len(figures) > 1 and figures[0] == "0":
        return None
    return int(figures)


def sign_of(word):
    """Return the sign that a word writes, or None where it writes no good one."""
    if word in SILENT_KINDS:
        return (word, 0)
    kind = word[:1]
    tone = tone_of(word[1:])
    if kind not in SOUNDING_KINDS or tone is None:
        return None
    return (kind, tone)


def read_sign(word):
    """Return the sign that a word writes."""
    sign = sign_of(word)
    if sign is None:
        raise BadWord(0)
    return sign


def read_line(text):
    """Return the line that a text writes."""
    line = []
    # Split by blanks, the empty text would be one empty word, but it writes the empty line.
    if text == "":
        return line
    for at, word in enumerate(text.split(" ")):
        sign = sign_of(word)
        if sign is None:
            raise BadWord(at)
        line.append(sign)
    return line
