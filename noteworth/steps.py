"""Steps: a line walked from left to right together with a told worth for each sign."""

from noteworth.signs import parting, small

TWOFOLD_STATES = ("2-", "2g", "2G")
TWOFOLD_BEGIN = "2-"
THREEFOLD_BEGIN = "3n0-"
SHORTENED_FROM_AHEAD = "3t0-"

# Each left can stand with each of these, the count and the last; `t` with the first alone.
NO_RUN = "0-"
RUNS_GOING_ON = ("0s", "0o", "1s", "1o", "2s", "2S", "2o")
LEFTS_OF_RUNS = ("n", "w", "h")

NEXT_COUNTS = {"0": "1", "1": "2", "2": "0"}

# From `2-`, by a kind and a worth. What isn't here leads nowhere.
TWOFOLD_STEPS = {
    ("s", 1): "2-", ("d", 1): "2-", ("r", 1): "2-",
    ("D", 2): "2-", ("R", 2): "2-", ("G", 2): "2g", ("G", 3): "2G",
    (".", 0): "2-", ("2", 0): "2-", ("3", 0): "3n0-",
}

# Behind a great sign that isn't shortened from ahead. What isn't here leads nowhere.
GREAT_STEPS = {("G", 3): "3w0-", ("G", 2): "3h0-", ("D", 2): "3n0-", ("R", 3): "3n0-"}


def states():
    """Return the twenty-eight states, sorted as texts."""
    found = list(TWOFOLD_STATES)
    found.append(SHORTENED_FROM_AHEAD)
    for left in LEFTS_OF_RUNS:
        found.append(f"3{left}{NO_RUN}")
        for run in RUNS_GOING_ON:
            found.append(f"3{left}{run}")
    return sorted(found)


def begin_state(begin=3):
    """Return the state in which a line begins."""
    if begin == 3:
        return THREEFOLD_BEGIN
    return TWOFOLD_BEGIN


def step(state, sign, worth):
    """Return the state to which a sign told with a worth leads, or None."""
    if state in TWOFOLD_STATES:
        return twofold_step(state, sign[0], worth)
    if small(sign):
        return small_step(state, sign[0], worth)
    if parting(sign):
        return parting_step(state, sign[0], worth)
    return great_step(state, sign[0], worth)


def ends(state):
    """Tell whether a line may end in a state."""
    if state in TWOFOLD_STATES:
        return state != "2G"
    return closes(state)


def twofold_step(state, kind, worth):
    """Step from a state of the twofold measure."""
    # `2G` was told as 3, which needs a dot; `2g` was told as 2, which bears none.
    if state == "2G" and kind != ".":
        return None
    if state == "2g" and kind == ".":
        return None
    return TWOFOLD_STEPS.get((kind, worth))


def closes(state):
    """Tell whether the run can be closed by whatever comes behind it, the line's end too."""
    left, count = state[1], state[2]
    if count == "0":
        return left != "h"
    return count == "1" and left == "h"


def closes_by_great(state):
    """Tell whether the run was told as one whose last sign is doubled, so that a great sign must close it."""
    return state in ("3n2S", "3w2S")


def closes_by_right_note(state):
    """Tell whether the run can be closed by a `G` that is shortened from ahead."""
    return state in ("3n1s", "3n1o", "3h2o")


def great_step(state, kind, worth):
    """Step by a great sign in the threefold measure."""
    # A `G` with a great sign right behind it is no right note, so it wasn't shortened from ahead.
    if state == SHORTENED_FROM_AHEAD:
        return None
    if closes_by_right_note(state) and kind == "G" and worth == 2:
        return SHORTENED_FROM_AHEAD
    if closes(state) or closes_by_great(state):
        return GREAT_STEPS.get((kind, worth))
    return None


def parting_step(state, kind, worth):
    """Step by a parting sign in the threefold measure."""
    if worth != 0 or not closes(state):
        return None
    if kind == "2":
        return TWOFOLD_BEGIN
    return THREEFOLD_BEGIN


def told_last(kind, count, worth):
    """Return the last that a small sign told with a worth makes, or None; the count is the one that it makes."""
    if worth == 1:
        return "s" if kind == "s" else "o"
    if worth == 2 and kind == "s" and count == "2":
        return "S"
    return None


def small_step(state, kind, worth):
    """Step by a small sign in the threefold measure."""
    # A doubled sign is its run's last one.
    if state[3] == "S":
        return None
    count = NEXT_COUNTS[state[2]]
    last = told_last(kind, count, worth)
    if last is None:
        return None
    # Shortened already, a `G` is no left note of the run behind it.
    left = "n" if state[1] == "t" else state[1]
    return f"3{left}{count}{last}"
