"""The nine kinds of signs. A sign is a pair (kind, tone)."""

# Tuples rather than texts: a text would also hold the empty text and two kinds side by side.
GREAT_KINDS = ("G", "D", "R")
SMALL_KINDS = ("s", "d", "r")
PARTING_KINDS = (".", "3", "2")
MEASURE_KINDS = ("3", "2")
SOUNDING_KINDS = ("G", "D", "s", "d")
SILENT_KINDS = ("R", "r", ".", "3", "2")

HIGHEST_TONE = 99


def good(sign):
    """Tell whether a pair of a text and a whole number is a good sign."""
    kind, tone = sign
    if kind in SOUNDING_KINDS:
        return 0 <= tone <= HIGHEST_TONE
    return kind in SILENT_KINDS and tone == 0


def great(sign):
    """Tell whether a good sign is a great one."""
    return sign[0] in GREAT_KINDS


def small(sign):
    """Tell whether a good sign is a small one."""
    return sign[0] in SMALL_KINDS


def parting(sign):
    """Tell whether a good sign is a parting one."""
    return sign[0] in PARTING_KINDS


def sets_measure(sign):
    """Tell whether a good sign is a measure sign."""
    return sign[0] in MEASURE_KINDS


def sounds(sign):
    """Tell whether a good sign sounds."""
    return sign[0] in SOUNDING_KINDS
