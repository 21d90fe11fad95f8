"""Words that tell numbers, and how a canon reads: as a book's rows and the desk's commands write them."""

FIGURES = ("0", "1", "2", "3", "4", "5", "6", "7", "8", "9")

# Whether a canon that is told by this word is turned.
WAYS = {"straight": False, "turned": True}


def number_of(word, most):
    """Return the number that a word of at most so many figures writes, or None where it writes none."""
    # The length is asked first: Python refuses to read a number of very many figures.
    if not 1 <= len(word) <= most:
        return None
    # Each sign is asked by itself: int alone would take blanks, "+", "-" and "_" too.
    if any([figure not in FIGURES for figure in word]):
        return None
    if len(word) > 1 and word[0] == "0":
        return None
    return int(word)
