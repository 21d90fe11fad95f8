"""Points 4 to 8 said once more, by rewriting texts of kinds, and the lines that the tests walk.

A line is a text of kinds here, one letter for each sign: "GssG.".
"""

import itertools
import random
import re

KINDS = "GDRsdr.32"
LETTER_WORTHS = {
    3: {"G": 3, "g": 2, "D": 2, "R": 3, "s": 1, "S": 2, "d": 1, "r": 1, ".": 0, "3": 0, "2": 0},
    2: {"G": 2, "g": 3, "D": 2, "R": 2, "s": 1, "d": 1, "r": 1, ".": 0, "3": 0, "2": 0},
}


def line_of(kinds):
    """The line with these kinds; what sounds has a tone that goes with its place."""
    return [(kind, at % 100 if kind in "GDsd" else 0) for at, kind in enumerate(kinds)]


def kinds_of(line):
    return "".join([kind for kind, tone in line])


def stretches(kinds, begin):
    """The parts of a line that have one measure each, as pairs (measure, part)."""
    parts = re.findall(r"[32][^32]*|^[^32]+", kinds)
    return [(int(part[0]) if part[0] in "32" else begin, part) for part in parts]


def threefold(part):
    """A stretch with each shortened `G` as `g` and each doubled `s` as `S`, and its loose runs."""
    loose = []
    for found in list(re.finditer(r"[sdr]+", part)):
        first, behind = found.span()
        ahead, run, after = part[:first], part[first:behind], part[behind:]
        left = re.search(r"G$", ahead)
        right = re.match(r"G(?![GDR])", after)
        rest = len(run) % 3
        if rest == 1 and left:
            ahead = ahead[:-1] + "g"
        elif rest == 1 and right:
            after = "g" + after[1:]
        elif rest == 2 and re.match(r"[GDR]", after) and run.endswith("s"):
            run = run[:-1] + "S"
        elif rest == 2 and left and right:
            ahead, after = ahead[:-1] + "g", "g" + after[1:]
        elif rest != 0:
            loose.append((first, behind))
        part = ahead + run + after
    return part, loose


def twofold(part):
    """A stretch with each dotted `G` as `g`."""
    return part.replace("G.", "g."), []


def plain_reading(kinds, begin):
    """The worths of a line, its runs and its loose runs."""
    worths, runs, loose = [], [], []
    for measure, part in stretches(kinds, begin):
        start = len(worths)
        rewritten, found = threefold(part) if measure == 3 else twofold(part)
        worths.extend([LETTER_WORTHS[measure][letter] for letter in rewritten])
        loose.extend([(start + first, start + behind) for first, behind in found])
        if measure == 3:
            runs.extend([(start + run.start(), start + run.end()) for run in re.finditer(r"[sdr]+", part)])
    return worths, runs, loose


def plain_worths(kinds, begin):
    return plain_reading(kinds, begin)[0]


def short_lines(most):
    """All lines of at most so many signs."""
    for many in range(most + 1):
        for kinds in itertools.product(KINDS, repeat=many):
            yield "".join(kinds)


def long_lines(many):
    """Lines of up to 400 signs, the same ones each time: any signs, mostly small ones, few measure signs."""
    chance = random.Random(20261117)
    for at in range(many):
        bag = (KINDS, "GsdrGsdrGsdrDR.", "sssdrG", "GGGsd.2", "ssddrrG" * 5 + "32.DR")[at % 5]
        yield "".join(chance.choices(bag, k=chance.choice((7, 12, 30, 100, 399, 400))))
