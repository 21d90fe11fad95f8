"""A desk: a book that is told what to do by commands, texts of words with one blank between."""

from noteworth.book import Book
from noteworth.errors import BadName, BadTerm, BadWord, Full, Leaned, NameTaken, NoMore, NoPlace, NotPlain, NoVoice
from noteworth.texts import read_sign, shown_sign
from noteworth.words import WAYS, number_of

MOST_FIGURES = 4

# What the words behind each command's first one are to be.
FORMS = {
    "add": ("name",),
    "follow": ("name", "name", "number", "number", "way"),
    "drop": ("name",),
    "put": ("name", "number", "sign"),
    "cut": ("name", "number"),
    "swap": ("name", "number", "sign"),
    "undo": (),
    "redo": (),
    "line": ("name",),
    "worths": ("name",),
}


def fits(word, form):
    """Tell whether a word is of a form; any word is taken for a name or a sign here."""
    if form == "number":
        return number_of(word, MOST_FIGURES) is not None
    if form == "way":
        return word in WAYS
    return word != ""


def is_command(words):
    """Tell whether words make a command."""
    if words[0] not in FORMS:
        return False
    forms = FORMS[words[0]]
    if len(words) != len(forms) + 1:
        return False
    return all([fits(word, form) for word, form in zip(words[1:], forms)])


def value_of(word, form):
    """Return what a word of a form tells."""
    if form == "number":
        return number_of(word, MOST_FIGURES)
    if form == "way":
        return WAYS[word]
    if form == "sign":
        return read_sign(word)
    return word


def answer_add(book, values):
    """Answer `add`."""
    book.add_voice(values[0])
    return "ok"


def answer_follow(book, values):
    """Answer `follow`."""
    name, leader, later, slow, is_turned = values
    book.add_canon(name, leader, later, slow, is_turned)
    return "ok"


def answer_drop(book, values):
    """Answer `drop`."""
    book.drop(values[0])
    return "ok"


def answer_put(book, values):
    """Answer `put`."""
    name, at, sign = values
    low, high = book.put(name, at, sign)
    return f"ok {low} {high}"


def answer_cut(book, values):
    """Answer `cut`."""
    name, at = values
    low, high = book.cut(name, at)
    return f"ok {low} {high}"


def answer_swap(book, values):
    """Answer `swap`."""
    name, at, sign = values
    low, high = book.swap(name, at, sign)
    return f"ok {low} {high}"


def answer_undo(book, values):
    """Answer `undo`."""
    book.undo()
    return "ok"


def answer_redo(book, values):
    """Answer `redo`."""
    book.redo()
    return "ok"


def answer_line(book, values):
    """Answer `line`."""
    return " ".join(["ok"] + [shown_sign(sign) for sign in book.line(values[0])])


def answer_worths(book, values):
    """Answer `worths`."""
    return " ".join(["ok"] + [str(worth) for worth in book.kept(values[0])])


ANSWERS = {
    "add": answer_add,
    "follow": answer_follow,
    "drop": answer_drop,
    "put": answer_put,
    "cut": answer_cut,
    "swap": answer_swap,
    "undo": answer_undo,
    "redo": answer_redo,
    "line": answer_line,
    "worths": answer_worths,
}


def answer_to(book, words):
    """Return the answer to a command's words, unless they are refused."""
    answer = ANSWERS[words[0]]
    return answer(book, [value_of(word, form) for word, form in zip(words[1:], FORMS[words[0]])])


class Desk:
    """Has a book, empty at first, and takes commands."""

    def __init__(self):
        self.book = Book()

    def told(self, command):
        """Return the answer to a command."""
        words = command.split(" ")
        if not is_command(words):
            return "no BadRow"
        try:
            return answer_to(self.book, words)
        except BadWord:
            return "no BadWord"
        except BadName:
            return "no BadName"
        except NameTaken:
            return "no NameTaken"
        except Full:
            return "no Full"
        except NoVoice:
            return "no NoVoice"
        except NotPlain:
            return "no NotPlain"
        except NoPlace:
            return "no NoPlace"
        except BadTerm:
            return "no BadTerm"
        except Leaned:
            return "no Leaned"
        except NoMore:
            return "no NoMore"
