"""Points 4 to 8, 11 and 16 to 21 said once more, and the lines and books that the tests walk.

In points 4 to 8 a line is a text of kinds, one letter for each sign: "GssG.".
"""

import itertools
import random
import re

from noteworth import errors

KINDS = "GDRsdr.32"
LETTER_WORTHS = {
    3: {"G": 3, "g": 2, "D": 2, "R": 3, "s": 1, "S": 2, "d": 1, "r": 1, ".": 0, "3": 0, "2": 0},
    2: {"G": 2, "g": 3, "D": 2, "R": 2, "s": 1, "d": 1, "r": 1, ".": 0, "3": 0, "2": 0},
}


def line_of(kinds):
    """The line with these kinds; what sounds has a tone that goes with its place."""
    return [(kind, at % 100 if kind in "GDsd" else 0) for at, kind in enumerate(kinds)]


def kinds_of(line):
    return "".join([kind for kind, tone in line])


def stretches(kinds, begin):
    """The parts of a line that have one measure each, as pairs (measure, part)."""
    parts = re.findall(r"[32][^32]*|^[^32]+", kinds)
    return [(int(part[0]) if part[0] in "32" else begin, part) for part in parts]


def threefold(part):
    """A stretch with each shortened `G` as `g` and each doubled `s` as `S`, and its loose runs."""
    loose = []
    for found in list(re.finditer(r"[sdr]+", part)):
        first, behind = found.span()
        ahead, run, after = part[:first], part[first:behind], part[behind:]
        left = re.search(r"G$", ahead)
        right = re.match(r"G(?![GDR])", after)
        rest = len(run) % 3
        if rest == 1 and left:
            ahead = ahead[:-1] + "g"
        elif rest == 1 and right:
            after = "g" + after[1:]
        elif rest == 2 and re.match(r"[GDR]", after) and run.endswith("s"):
            run = run[:-1] + "S"
        elif rest == 2 and left and right:
            ahead, after = ahead[:-1] + "g", "g" + after[1:]
        elif rest != 0:
            loose.append((first, behind))
        part = ahead + run + after
    return part, loose


def twofold(part):
    """A stretch with each dotted `G` as `g`."""
    return part.replace("G.", "g."), []


def plain_reading(kinds, begin):
    """The worths of a line, its runs and its loose runs."""
    worths, runs, loose = [], [], []
    for measure, part in stretches(kinds, begin):
        start = len(worths)
        rewritten, found = threefold(part) if measure == 3 else twofold(part)
        worths.extend([LETTER_WORTHS[measure][letter] for letter in rewritten])
        loose.extend([(start + first, start + behind) for first, behind in found])
        if measure == 3:
            runs.extend([(start + run.start(), start + run.end()) for run in re.finditer(r"[sdr]+", part)])
    return worths, runs, loose


def plain_worths(kinds, begin):
    return plain_reading(kinds, begin)[0]


def short_lines(most):
    """All lines of at most so many signs."""
    for many in range(most + 1):
        for kinds in itertools.product(KINDS, repeat=many):
            yield "".join(kinds)


def long_lines(many):
    """Lines of up to 400 signs, the same ones each time: any signs, mostly small ones, few measure signs."""
    chance = random.Random(20261117)
    for at in range(many):
        bag = (KINDS, "GsdrGsdrGsdrDR.", "sssdrG", "GGGsd.2", "ssddrrG" * 5 + "32.DR")[at % 5]
        yield "".join(chance.choices(bag, k=chance.choice((7, 12, 30, 100, 399, 400))))


# Every step there is, written out by point 11: from a state, by a kind and a worth, to a state.
# Whatever isn't here leads nowhere.
SMALL_0 = "s1>3{0}1s d1>3{0}1o r1>3{0}1o"
SMALL_1 = "s1>3{0}2s s2>3{0}2S d1>3{0}2o r1>3{0}2o"
SMALL_2 = "s1>3{0}0s d1>3{0}0o r1>3{0}0o"
PARTING = ".0>3n0- 30>3n0- 20>2-"
GREAT = "G3>3w0- G2>3h0- D2>3n0- R3>3n0-"
RIGHT_NOTE = "G2>3t0-"
TWOFOLD = "s1>2- d1>2- r1>2- D2>2- R2>2- G2>2g G3>2G 30>3n0- 20>2-"

STEPS = {
    "2-": [TWOFOLD, ".0>2-"],
    "2g": [TWOFOLD],
    "2G": [".0>2-"],
    "3n0-": [GREAT, PARTING, SMALL_0],
    "3n0s": [GREAT, PARTING, SMALL_0],
    "3n0o": [GREAT, PARTING, SMALL_0],
    "3n1s": [RIGHT_NOTE, SMALL_1],
    "3n1o": [RIGHT_NOTE, SMALL_1],
    "3n2s": [SMALL_2],
    "3n2S": [GREAT],
    "3n2o": [SMALL_2],
    "3w0-": [GREAT, PARTING, SMALL_0],
    "3w0s": [GREAT, PARTING, SMALL_0],
    "3w0o": [GREAT, PARTING, SMALL_0],
    "3w1s": [SMALL_1],
    "3w1o": [SMALL_1],
    "3w2s": [SMALL_2],
    "3w2S": [GREAT],
    "3w2o": [SMALL_2],
    "3h0-": [SMALL_0],
    "3h0s": [SMALL_0],
    "3h0o": [SMALL_0],
    "3h1s": [GREAT, PARTING, SMALL_1],
    "3h1o": [GREAT, PARTING, SMALL_1],
    "3h2s": [SMALL_2],
    "3h2S": [],
    "3h2o": [RIGHT_NOTE, SMALL_2],
    "3t0-": [PARTING, SMALL_0.format("n")],
}

ENDS = ["2-", "2g", "3n0-", "3n0s", "3n0o", "3w0-", "3w0s", "3w0o", "3h1s", "3h1o", "3t0-"]


def written_steps(state):
    """The written steps from a state, as a dict from (kind, worth) to a state."""
    words = " ".join(STEPS[state]).format(state[1]).split()
    return {(word[0], int(word[1])): word[3:] for word in words}


REFUSALS = (
    "BadSign", "BadWord", "BadName", "NameTaken", "Full", "NoVoice", "NotPlain",
    "NoPlace", "BadTerm", "Leaned", "NoMore", "Closed", "BadRow",
)


def refusal_of(call, *given):
    """The name of the one refusal that a call ends with, or the empty text where it isn't refused."""
    try:
        call(*given)
    except errors.NoteError as refusal:
        assert isinstance(refusal, ValueError)
        (name,) = [name for name in REFUSALS if isinstance(refusal, getattr(errors, name))]
        return name
    return ""


def whole(book):
    """All that a book tells of itself."""
    return [(name, book.line(name), book.kept(name), book.canon(name)) for name in book.names()]


def history(book):
    """Where a book stands among its deeds, and all that it tells behind each of them, from the first on.

    It is undone to its beginning, done again to its end, and left as it was.
    """
    done = 0
    while refusal_of(book.undo) == "":
        done += 1
    told = [whole(book)]
    while refusal_of(book.redo) == "":
        told.append(whole(book))
    for deed in range(len(told) - 1 - done):
        book.undo()
    return done, told


class PlainBook:
    """Points 16 to 19 and 21 said once more: each deed keeps the whole book that stood ahead of it.

    A voice is a tuple (name, line, terms): a canon's line is None, a plain voice's terms are None.
    """

    def __init__(self):
        self.voices, self.past, self.future = [], [], []

    def names(self):
        return [name for name, line, terms in self.voices]

    def voice(self, name):
        return {voice[0]: voice for voice in self.voices}.get(name)

    def due(self, deed, *given):
        """The name of the refusal that is due, or the empty text."""
        if deed in ("undo", "redo"):
            return "" if (self.past if deed == "undo" else self.future) else "NoMore"
        if deed in ("add_voice", "add_canon"):
            checks = [
                ("BadName", not re.fullmatch("[a-z]{1,8}", given[0])),
                ("NameTaken", given[0] in self.names()),
                ("Full", len(self.voices) > 11),
            ]
            if deed == "add_canon":
                leader, later, slow, is_turned = all_terms(given)
                checks += self.plain_checks(leader)
                checks.append(("BadTerm", later not in range(1000) or slow not in range(1, 10)))
        elif deed == "drop":
            leaders = [terms[0] for name, line, terms in self.voices if terms]
            checks = [("NoVoice", given[0] not in self.names()), ("Leaned", given[0] in leaders)]
        else:
            line = (self.voice(given[0]) or (None, None, None))[1] or ()
            places = range(len(line) + 1) if deed == "put" else range(len(line))
            checks = self.plain_checks(given[0]) + [
                ("NoPlace", given[1] not in places),
                ("BadSign", len(given) == 3 and not plainly_good(given[2])),
                ("Full", deed == "put" and len(line) > 199),
            ]
        return ([name for name, is_due in checks if is_due] + [""])[0]

    def plain_checks(self, name):
        voice = self.voice(name)
        return [("NoVoice", voice is None), ("NotPlain", voice is not None and voice[2] is not None)]

    def do(self, deed, *given):
        """Do what isn't refused."""
        if deed == "undo":
            self.future.append(self.voices)
            self.voices = self.past.pop()
            return
        self.past.append(self.voices)
        if deed == "redo":
            self.voices = self.future.pop()
            return
        self.future = []
        if deed == "add_voice":
            self.voices = self.voices + [(given[0], (), None)]
        elif deed == "add_canon":
            self.voices = self.voices + [(given[0], None, all_terms(given))]
        elif deed == "drop":
            self.voices = [voice for voice in self.voices if voice[0] != given[0]]
        else:
            self.voices = [self.changed(voice, deed, *given[1:]) if voice[0] == given[0] else voice
                           for voice in self.voices]

    def changed(self, voice, deed, at, sign=None):
        name, line, terms = voice
        behind = at if deed == "put" else at + 1
        return (name, line[:at] + (() if deed == "cut" else (sign,)) + line[behind:], terms)

    def line(self, name):
        own, line, terms = self.voice(name)
        if terms is None:
            return list(line)
        line = self.line(terms[0])
        return [({"3": "2", "2": "3"}.get(kind, kind), tone) for kind, tone in line] if terms[3] else line

    def canon(self, name):
        return self.voice(name)[2]

    def kept(self, name):
        leader, later, slow, is_turned = self.canon(name) or (name, 0, 1, False)
        return [worth * slow for worth in plain_worths(kinds_of(self.line(name)), 2 if is_turned else 3)]


def all_terms(given):
    """A canon's terms by what is handed in, where the last ones may be left out."""
    return given[1:] + (0, 1, False)[len(given) - 2:]


def plainly_good(sign):
    return sign[1] in range(100) if sign[0] in tuple("GDsd") else sign in [(kind, 0) for kind in "Rr.32"]


def plain_window(deed, at, kinds, changed):
    """Point 20 said once more: a line's kinds behind a deed, and the kinds of the signs that came or went."""
    marks = [place for place in range(at) if kinds[place] in "GDR.32"]
    low = marks[-2] if len(marks) >= 2 else 0
    bounds = "32" if "3" in changed or "2" in changed else ".32"
    first = at if deed == "cut" else at + 1
    return low, min([place for place in range(first, len(kinds)) if kinds[place] in bounds], default=len(kinds))


NAMES = ("a", "b", "cc", "tenor", "zzzzzzzz", "m", "n", "o", "p", "q", "r", "s", "t")


def drawn_sign(chance, bag=KINDS):
    kind = chance.choice(bag)
    return (kind, chance.randrange(100) if kind in "GDsd" else 0)


def drawn_deed(chance, model):
    """A deed and what is handed in, drawn so that each refusal is due now and then."""
    deed = chance.choice(("put",) * 8 + ("cut", "swap", "swap", "add_voice", "add_canon", "add_canon", "drop"))
    name = chance.choice(model.names() + list(NAMES) + ["", "A", "a b", "ninelette"])
    if deed in ("add_voice", "drop"):
        return (deed, name)
    if deed == "add_canon":
        later, slow = chance.choice((-1, 0, 0, 1, 2, 3, 7, 999, 1000)), chance.choice((0, 1, 1, 2, 3, 9, 10))
        return (deed, name, chance.choice(NAMES), later, slow, chance.choice((True, False)))
    at = chance.randrange(-1, len(model.line(name)) + 2) if name in model.names() else 0
    sign = chance.choice([drawn_sign(chance)] * 9 + [("G", 100), ("R", 1), ("x", 0)])
    return (deed, name, at) if deed == "cut" else (deed, name, at, sign)


def drawn_good_deed(chance, model):
    """A deed that isn't refused."""
    while True:
        drawn = drawn_deed(chance, model)
        if model.due(*drawn) == "":
            return drawn
