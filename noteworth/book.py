"""A book of voices: plain ones with lines, canons that read them, and deeds that can be undone."""

from noteworth.errors import BadName, BadSign, BadTerm, Full, Leaned, NameTaken, NoMore, NoPlace, NotPlain, NoVoice
from noteworth.measures import turned
from noteworth.reader import worths
from noteworth.signs import MEASURE_KINDS, PARTING_KINDS, good, sets_measure, small

LETTERS = "abcdefghijklmnopqrstuvwxyz"
LONGEST_NAME = 8
MOST_VOICES = 12
MOST_SIGNS = 200
LATEST = 999
SLOWEST = 9


class Voice:
    """A voice of a book. A plain one has signs and no terms; a canon has terms (leader, later, slow, turned)."""

    def __init__(self, name, terms):
        self.name = name
        self.terms = terms
        self.signs = []


class Deed:
    """A change in a list: what stood at a place ahead of the deed, and what stands there behind it."""

    def __init__(self, things, at, before, after):
        self.things = things
        self.at = at
        self.before = before
        self.after = after

    def do(self):
        """Make the change."""
        self.things[self.at:self.at + len(self.before)] = self.after

    def undo(self):
        """Take the change back."""
        self.things[self.at:self.at + len(self.after)] = self.before


def is_name(name):
    """Tell whether a voice may bear a name."""
    return 1 <= len(name) <= LONGEST_NAME and all([letter in LETTERS for letter in name])


def refuse_other_places(at, last):
    """Refuse a place that isn't from 0 to the last one."""
    if not 0 <= at <= last:
        raise NoPlace("the line has no such place")


def refuse_bad_sign(sign):
    """Refuse a sign that isn't good."""
    if not good(sign):
        raise BadSign("only a good sign stands in a line")


def low_end(line, at):
    """Return the place of the second great or parting sign to the left of a place, or 0."""
    met = 0
    for place in range(at - 1, -1, -1):
        if not small(line[place]):
            met += 1
        if met == 2:
            return place
    return 0


def high_end(line, first, kinds):
    """Return the first place from a given one on at which one of the kinds stands, or the line's length."""
    for place in range(first, len(line)):
        if line[place][0] in kinds:
            return place
    return len(line)


def window(line, at, behind, changed):
    """Return the window of a deed: its place, the place behind it, and the signs that came or went."""
    # A dot ends what a sign can touch, but a measure goes on behind it.
    kinds = MEASURE_KINDS if any([sets_measure(sign) for sign in changed]) else PARTING_KINDS
    return (low_end(line, at), high_end(line, behind, kinds))


class Book:
    """Voices in the order in which they were put in, the deeds that were done, and those that were undone."""

    def __init__(self):
        self.voices = []
        self.done = []
        self.undone = []

    def add_voice(self, name):
        """Put in a plain voice with an empty line."""
        self.refuse_new(name)
        self.put_in(Voice(name, None))

    def add_canon(self, name, leader, later=0, slow=1, is_turned=False):
        """Put in a canon that reads a plain voice's line."""
        self.refuse_new(name)
        self.plain_voice(leader)
        if not (0 <= later <= LATEST and 1 <= slow <= SLOWEST):
            raise BadTerm("a canon begins 0 to 999 beats later and is 1 to 9 times as slow")
        self.put_in(Voice(name, (leader, later, slow, is_turned)))

    def drop(self, name):
        """Take a voice out that no canon reads."""
        dropped = self.voice_called(name)
        if any([voice.terms is not None and voice.terms[0] == name for voice in self.voices]):
            raise Leaned("a canon reads this voice")
        self.perform(Deed(self.voices, self.names().index(name), [dropped], []))

    def put(self, name, at, sign):
        """Put a sign in ahead of a place, or at the line's end; return the window."""
        signs = self.plain_voice(name).signs
        refuse_other_places(at, len(signs))
        refuse_bad_sign(sign)
        if len(signs) >= MOST_SIGNS:
            raise Full("the line has no room for one more sign")
        self.perform(Deed(signs, at, [], [sign]))
        return window(signs, at, at + 1, [sign])

    def cut(self, name, at):
        """Cut a sign out; return the window."""
        signs = self.plain_voice(name).signs
        refuse_other_places(at, len(signs) - 1)
        sign = signs[at]
        self.perform(Deed(signs, at, [sign], []))
        return window(signs, at, at, [sign])

    def swap(self, name, at, sign):
        """Swap a sign for another one; return the window."""
        signs = self.plain_voice(name).signs
        refuse_other_places(at, len(signs) - 1)
        refuse_bad_sign(sign)
        before = signs[at]
        self.perform(Deed(signs, at, [before], [sign]))
        return window(signs, at, at + 1, [before, sign])

    def undo(self):
        """Undo the last deed that wasn't undone yet."""
        if self.done == []:
            raise NoMore("no deed is left to undo")
        deed = self.done.pop()
        deed.undo()
        self.undone.append(deed)

    def redo(self):
        """Do again the deed that was undone last."""
        if self.undone == []:
            raise NoMore("no deed is left to do again")
        deed = self.undone.pop()
        deed.do()
        self.done.append(deed)

    def names(self):
        """Return the names in the order in which the voices were put in."""
        return [voice.name for voice in self.voices]

    def line(self, name):
        """Return a plain voice's line, or its leader's line as a canon reads it."""
        terms = self.canon(name)
        if terms is None:
            return list(self.voice_called(name).signs)
        leader, later, slow, is_turned = terms
        heard = self.line(leader)
        return turned(heard) if is_turned else heard

    def kept(self, name):
        """Return the worths of a voice's line, a canon's each as many times as long as it is slow."""
        terms = self.canon(name)
        if terms is None:
            return worths(self.line(name), 3)
        leader, later, slow, is_turned = terms
        begin = 2 if is_turned else 3
        return [slow * worth for worth in worths(self.line(name), begin)]

    def canon(self, name):
        """Return None for a plain voice, and (leader, later, slow, turned) for a canon."""
        return self.voice_called(name).terms

    def forget_deeds(self):
        """Leave the voices as they are, with nothing to undo or to do again."""
        self.done.clear()
        self.undone.clear()

    def perform(self, deed):
        """Do a new deed; what was undone ahead of it can't be done again."""
        deed.do()
        self.done.append(deed)
        self.undone.clear()

    def put_in(self, voice):
        """Put a voice in behind all others."""
        self.perform(Deed(self.voices, len(self.voices), [], [voice]))

    def refuse_new(self, name):
        """Refuse a name under which no new voice can be put in."""
        if not is_name(name):
            raise BadName("a name has one to eight letters from a to z")
        if name in self.names():
            raise NameTaken("another voice bears this name")
        if len(self.voices) >= MOST_VOICES:
            raise Full("the book has no room for one more voice")

    def voice_called(self, name):
        """Return the voice that bears a name."""
        for voice in self.voices:
            if voice.name == name:
                return voice
        raise NoVoice("no voice bears this name")

    def plain_voice(self, name):
        """Return the plain voice that bears a name."""
        voice = self.voice_called(name)
        if voice.terms is not None:
            raise NotPlain("a canon has no line of its own")
        return voice
