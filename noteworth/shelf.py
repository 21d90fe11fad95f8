"""A book as text, a row for each voice, and back."""

from noteworth.book import Book
from noteworth.errors import BadRow, NoteError
from noteworth.texts import read_sign, shown_sign
from noteworth.words import WAYS, number_of

# A canon's terms have at most three figures.
MOST_FIGURES = 3


def shown_voice(book, name):
    """Return the row that writes a voice."""
    terms = book.canon(name)
    if terms is None:
        return " ".join(["voice", name] + [shown_sign(sign) for sign in book.line(name)])
    leader, later, slow, is_turned = terms
    way = "turned" if is_turned else "straight"
    return f"canon {name} {leader} {later} {slow} {way}"


def shown_book(book):
    """Return the text that writes a book."""
    return "\n".join([shown_voice(book, name) for name in book.names()])


def take_voice(book, words):
    """Put in the plain voice that a row's words write; tell whether they are of that form."""
    if len(words) < 2:
        return False
    name = words[1]
    book.add_voice(name)
    for at, word in enumerate(words[2:]):
        book.put(name, at, read_sign(word))
    return True


def take_canon(book, words):
    """Put in the canon that a row's words write; tell whether they are of that form."""
    if len(words) != 6:
        return False
    later = number_of(words[3], MOST_FIGURES)
    slow = number_of(words[4], MOST_FIGURES)
    if later is None or slow is None or words[5] not in WAYS:
        return False
    book.add_canon(words[1], words[2], later, slow, WAYS[words[5]])
    return True


def take_row(book, row):
    """Put in the voice that a row writes; tell False where it writes none that the book takes."""
    words = row.split(" ")
    try:
        if words[0] == "voice":
            return take_voice(book, words)
        return words[0] == "canon" and take_canon(book, words)
    except NoteError:
        return False


def read_book(text):
    """Return the book that a text writes."""
    book = Book()
    # Split by line feeds, the empty text would be one empty row, but it writes the empty book.
    if text == "":
        return book
    for at, row in enumerate(text.split("\n")):
        if not take_row(book, row):
            raise BadRow(at)
    book.forget_deeds()
    return book
