"""Measures and runs: how far each measure reaches, and where small signs stand side by side."""

from noteworth.signs import sets_measure, small

TURNED_KINDS = {"3": "2", "2": "3"}


def measures(line, begin=3):
    """Return the measure at each sign."""
    found = []
    measure = begin
    for sign in line:
        if sets_measure(sign):
            measure = int(sign[0])
        found.append(measure)
    return found


def runs(line, begin=3):
    """Return the runs as pairs (first place, place behind the last)."""
    found = []
    # The place behind the last sign that is in no run: a run can begin there at the earliest.
    first = 0
    for at, (sign, measure) in enumerate(zip(line, measures(line, begin))):
        if measure == 2 or not small(sign):
            if first < at:
                found.append((first, at))
            first = at + 1
    if first < len(line):
        found.append((first, len(line)))
    return found


def turned(line):
    """Return a new line with each threefold sign as a twofold one and the other way about."""
    return [(TURNED_KINDS.get(kind, kind), tone) for kind, tone in line]
