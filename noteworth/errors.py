"""The refusals of the program, one class for each."""


class NoteError(ValueError):
    """Any refusal."""


class BadSign(NoteError):
    """A sign that isn't good."""


class BadWord(NoteError):
    """A word that writes no good sign; `at` is its place among the words."""

    def __init__(self, at):
        NoteError.__init__(self, f"no good sign is written by the word at place {at}")
        self.at = at


class BadName(NoteError):
    """A name that no voice may bear."""


class NameTaken(NoteError):
    """A name that another voice of the book bears."""


class Full(NoteError):
    """No room for one more voice or sign."""


class NoVoice(NoteError):
    """A name that no voice of the book bears."""


class NotPlain(NoteError):
    """A canon where a plain voice is asked for."""


class NoPlace(NoteError):
    """A place that the line hasn't."""


class BadTerm(NoteError):
    """A canon that begins or is slowed out of bounds."""


class Leaned(NoteError):
    """A voice that a canon still reads."""


class NoMore(NoteError):
    """Nothing is left to undo or to do again."""


class Closed(NoteError):
    """An ear that was closed before."""


class BadRow(NoteError):
    """A row that writes no voice of a book; `at` is its place among the rows."""

    def __init__(self, at):
        NoteError.__init__(self, f"no voice is written by the row at place {at}")
        self.at = at
