"""Lines read as a whole: worths, loose runs, length and wishes."""

from noteworth.measures import measures, runs
from noteworth.signs import GREAT_KINDS, parting, sounds

PLAIN_WORTHS = {"G": 3, "D": 2, "R": 3, "s": 1, "d": 1, "r": 1, ".": 0, "3": 0, "2": 0}
# Those kinds whose worth the twofold measure makes another one.
TWOFOLD_WORTHS = {"G": 2, "R": 2}

FULL_WORTH = 3
SHORTENED_WORTH = 2
DOUBLED_WORTH = 2
DOTTED_WORTH = 3

REST_TONE = -1


def plain_worth(kind, measure):
    """Return the worth of a sign as its kind and its measure alone tell it."""
    if measure == 2 and kind in TWOFOLD_WORTHS:
        return TWOFOLD_WORTHS[kind]
    return PLAIN_WORTHS[kind]


def kind_at(line, at):
    """Return the kind of the sign at a place, or the empty text where the line has no such place."""
    if 0 <= at < len(line):
        return line[at][0]
    return ""


def worths_without_runs(line, begin):
    """Return the worths as they are before any run is looked at."""
    found = []
    for at, measure in enumerate(measures(line, begin)):
        if measure == 2 and kind_at(line, at) == "G" and kind_at(line, at + 1) == ".":
            found.append(DOTTED_WORTH)
        else:
            found.append(plain_worth(kind_at(line, at), measure))
    return found


def has_left_note(line, found, first):
    """Tell whether the run that begins at a place has a left note."""
    # Right ahead of a run the measure is threefold, so a `G` of a lower worth was shortened before.
    return kind_at(line, first - 1) == "G" and found[first - 1] == FULL_WORTH


def has_right_note(line, behind):
    """Tell whether the run that ends ahead of a place has a right note."""
    return kind_at(line, behind) == "G" and kind_at(line, behind + 1) not in GREAT_KINDS


def settle_one_over(line, found, first, behind):
    """Settle a run of the rest 1; tell whether it found what it needs."""
    if has_left_note(line, found, first):
        found[first - 1] = SHORTENED_WORTH
        return True
    if has_right_note(line, behind):
        found[behind] = SHORTENED_WORTH
        return True
    return False


def settle_two_over(line, found, first, behind):
    """Settle a run of the rest 2; tell whether it found what it needs."""
    if kind_at(line, behind) in GREAT_KINDS and kind_at(line, behind - 1) == "s":
        found[behind - 1] = DOUBLED_WORTH
        return True
    if has_left_note(line, found, first) and has_right_note(line, behind):
        found[first - 1] = SHORTENED_WORTH
        found[behind] = SHORTENED_WORTH
        return True
    return False


def settle_run(line, found, first, behind):
    """Change those of the found worths that a run changes; tell False where it is loose."""
    rest = (behind - first) % 3
    if rest == 1:
        return settle_one_over(line, found, first, behind)
    if rest == 2:
        return settle_two_over(line, found, first, behind)
    return True


def reading(line, begin):
    """Return the worths of a line and its loose runs."""
    found = worths_without_runs(line, begin)
    loose_runs = []
    for first, behind in runs(line, begin):
        if not settle_run(line, found, first, behind):
            loose_runs.append((first, behind))
    return (found, loose_runs)


def worths(line, begin=3):
    """Return the worth of each sign."""
    return reading(line, begin)[0]


def loose(line, begin=3):
    """Return the loose runs, pairs like those of `runs`."""
    return reading(line, begin)[1]


def firm(line, begin=3):
    """Tell whether no run is loose."""
    return loose(line, begin) == []


def length(line, begin=3):
    """Return the sum of the worths."""
    return sum(worths(line, begin))


def wished_tone(sign):
    """Return the tone that a sign has among the wishes."""
    if sounds(sign):
        return sign[1]
    return REST_TONE


def wishes_of(line, begin=3):
    """Return a pair (tone, worth) for each sign that isn't parting."""
    return [(wished_tone(sign), worth) for sign, worth in zip(line, worths(line, begin)) if not parting(sign)]
