"""What a book refuses, and in which order (points 16, 17 and 21)."""

import itertools
import unittest

from noteworth.book import Book
from noteworth.score import ending, spans
from plainly import NAMES, PlainBook, history, refusal_of, whole

BAD_NAMES = ("", "abcdefghi", "A", "Z", "aB", "a1", "1", "a b", " a", "a ", " ", "a_b", "a-", "~", "`", "{", "a.b")
BAD_SIGNS = (("G", 100), ("G", -1), ("R", 1), ("x", 0), ("", 0), ("3", 3), ("GD", 5), ("s", 10 ** 5000))
GOOD_SIGN = ("s", 3)


class RefusalTest(unittest.TestCase):
    def both(self, voices, full_line=False):
        """A book and its model with so many voices, with deeds to undo and to do again.

        `a` is plain, `b` a canon of it, `c` plain; each other voice is plain and empty.
        """
        book, model = Book(), PlainBook()
        deeds = [("add_voice", "a"), ("add_canon", "b", "a", 5, 2, True), ("add_voice", "c")]
        deeds += [("add_voice", name) for name in ("e", "f", "g", "h", "i", "j", "k", "l", "m")]
        deeds = deeds[:voices]
        deeds += [("put", "a", 0, ("G", at % 100)) for at in range(200 if full_line else 3)]
        for drawn in deeds + [("swap", "a", 1, ("2", 0)), ("cut", "a", 0), ("undo",), ("undo",)]:
            getattr(book, drawn[0])(*drawn[1:])
            model.do(*drawn)
        self.assertEqual(len(book.names()), voices)
        return book, model

    def check(self, book, model, deeds):
        """Each of these deeds that the model refuses is refused so, and nothing is changed by it."""
        before = history(book)
        self.assertEqual(len(before[1]) - before[0], 3)
        met = set()
        for drawn in deeds:
            due = model.due(*drawn)
            met.add(due)
            if due != "":
                self.assertEqual(refusal_of(getattr(book, drawn[0]), *drawn[1:]), due, drawn)
                self.assertEqual(whole(book), before[1][before[0]], drawn)
        self.assertEqual(history(book), before)
        return met

    def test_a_voice_put_in(self):
        deeds = [("add_voice", name) for name in BAD_NAMES + ("a", "b", "m", "x", "abcdefgh")]
        self.assertEqual(self.check(*self.both(3), deeds), {"", "BadName", "NameTaken"})
        self.assertEqual(self.check(*self.both(11), deeds), {"", "BadName", "NameTaken"})
        self.assertEqual(self.check(*self.both(12), deeds), {"Full", "BadName", "NameTaken"})

    def test_a_canon_put_in(self):
        """Each refusal by itself, and any of them at once: the first one in the document's order."""
        names = ("", "abcdefghi", "a b", "a", "b", "x")
        leaders = ("nobody", "x", "", "b", "a", "c")
        deeds = [("add_canon",) + given for given in itertools.product(
            names, leaders, (-1, 0, 999, 1000, 10 ** 5000), (0, 1, 9, 10), (True, False))]
        self.assertEqual(self.check(*self.both(3), deeds),
                         {"", "BadName", "NameTaken", "NoVoice", "NotPlain", "BadTerm"})
        self.assertEqual(self.check(*self.both(12), deeds), {"BadName", "NameTaken", "Full"})

    def test_dropped(self):
        deeds = [("drop", name) for name in ("a", "b", "c", "x", "", "A b")]
        self.assertEqual(self.check(*self.both(3), deeds), {"", "NoVoice", "Leaned"})

    def test_a_sign_put_in(self):
        places = (-1000, -1, 0, 3, 4, 199, 200, 201, 10 ** 30)
        given = itertools.product(("x", "b", "a", "c"), places, BAD_SIGNS + (GOOD_SIGN,))
        deeds = [("put",) + each for each in given]
        self.assertEqual(self.check(*self.both(3), deeds), {"", "NoVoice", "NotPlain", "NoPlace", "BadSign"})
        self.assertEqual(self.check(*self.both(3, True), deeds),
                         {"", "NoVoice", "NotPlain", "NoPlace", "BadSign", "Full"})

    def test_a_sign_cut_out(self):
        places = (-1000, -1, 0, 2, 3, 4, 199, 200, 201)
        deeds = [("cut",) + given for given in itertools.product(("x", "b", "a", "c"), places)]
        self.assertEqual(self.check(*self.both(3), deeds), {"", "NoVoice", "NotPlain", "NoPlace"})
        self.assertEqual(self.check(*self.both(3, True), deeds), {"", "NoVoice", "NotPlain", "NoPlace"})

    def test_a_sign_swapped(self):
        places = (-1000, -1, 0, 2, 3, 4, 199, 200, 201)
        given = itertools.product(("x", "b", "a", "c"), places, BAD_SIGNS + (GOOD_SIGN,))
        deeds = [("swap",) + each for each in given]
        self.assertEqual(self.check(*self.both(3), deeds), {"", "NoVoice", "NotPlain", "NoPlace", "BadSign"})
        self.assertEqual(self.check(*self.both(3, True), deeds), {"", "NoVoice", "NotPlain", "NoPlace", "BadSign"})

    def test_whatever_asks_for_a_voice(self):
        book, model = self.both(3)
        before = history(book)
        for name in BAD_NAMES + ("x", "nobody"):
            for asked in (book.line, book.kept, book.canon, book.drop):
                self.assertEqual(refusal_of(asked, name), "NoVoice", name)
            for asked in (spans, ending):
                self.assertEqual(refusal_of(asked, book, name), "NoVoice", name)
                self.assertEqual(refusal_of(asked, Book(), name), "NoVoice", name)
        self.assertEqual(history(book), before)

    def test_a_dropped_voice_is_none(self):
        book = Book()
        book.add_voice("a")
        book.drop("a")
        for asked in (book.line, book.kept, book.canon, book.drop):
            self.assertEqual(refusal_of(asked, "a"), "NoVoice")
        self.assertEqual(refusal_of(book.put, "a", 0, GOOD_SIGN), "NoVoice")
        self.assertEqual(refusal_of(book.add_canon, "b", "a"), "NoVoice")
        book.undo()
        self.assertEqual(book.line("a"), [])


class BoundsTest(unittest.TestCase):
    def test_names(self):
        for name in ("a", "z", "az", "abcdefgh", "zzzzzzzz", "voice", "canon", "ok"):
            book = Book()
            book.add_voice(name)
            book.add_canon("x" if name != "x" else "y", name)
            self.assertEqual(book.names()[0], name)
        for name in BAD_NAMES:
            book = Book()
            self.assertEqual(refusal_of(book.add_voice, name), "BadName")
            self.assertEqual(refusal_of(book.add_canon, name, "a"), "BadName")
            self.assertEqual(book.names(), [])

    def test_twelve_voices(self):
        book = Book()
        for name in NAMES[:11]:
            book.add_voice(name)
        book.add_canon(NAMES[11], NAMES[0])
        self.assertEqual(len(book.names()), 12)
        self.assertEqual(refusal_of(book.add_voice, NAMES[12]), "Full")
        self.assertEqual(refusal_of(book.add_canon, NAMES[12], NAMES[0]), "Full")
        book.drop(NAMES[5])
        book.add_voice(NAMES[12])
        self.assertEqual(refusal_of(book.add_voice, NAMES[5]), "Full")

    def test_two_hundred_signs(self):
        book = Book()
        book.add_voice("a")
        book.add_voice("b")
        for at in range(200):
            self.assertEqual(refusal_of(book.put, "a", at, GOOD_SIGN), "")
        for at in (0, 100, 200):
            self.assertEqual(refusal_of(book.put, "a", at, GOOD_SIGN), "Full")
        self.assertEqual(refusal_of(book.put, "a", 201, GOOD_SIGN), "NoPlace")
        self.assertEqual(len(book.line("a")), 200)
        self.assertEqual(refusal_of(book.put, "b", 0, GOOD_SIGN), "")
        self.assertEqual(refusal_of(book.swap, "a", 199, ("R", 0)), "")
        self.assertEqual(refusal_of(book.cut, "a", 0), "")
        self.assertEqual(refusal_of(book.put, "a", 199, GOOD_SIGN), "")
        self.assertEqual(refusal_of(book.put, "a", 0, GOOD_SIGN), "Full")

    def test_terms(self):
        for later, slow, due in ((-1, 1, "BadTerm"), (0, 1, ""), (999, 1, ""), (1000, 1, "BadTerm"),
                                 (0, 0, "BadTerm"), (0, 9, ""), (0, 10, "BadTerm"), (0, -1, "BadTerm"),
                                 (999, 9, ""), (1000, 10, "BadTerm")):
            book = Book()
            book.add_voice("a")
            self.assertEqual(refusal_of(book.add_canon, "b", "a", later, slow), due, (later, slow))
            self.assertEqual(book.names(), ["a"] if due else ["a", "b"])

    def test_places(self):
        for length in (0, 1, 2, 7):
            for at in range(-2, length + 3):
                for deed, last in (("put", length), ("cut", length - 1), ("swap", length - 1)):
                    book = Book()
                    book.add_voice("a")
                    for place in range(length):
                        book.put("a", place, GOOD_SIGN)
                    given = ("a", at) if deed == "cut" else ("a", at, ("R", 0))
                    due = "" if 0 <= at <= last else "NoPlace"
                    self.assertEqual(refusal_of(getattr(book, deed), *given), due, (deed, length, at))

    def test_a_canon_is_no_leader(self):
        book = Book()
        book.add_voice("a")
        book.add_canon("b", "a")
        self.assertEqual(refusal_of(book.add_canon, "c", "b"), "NotPlain")
        self.assertEqual(refusal_of(book.add_canon, "c", "c"), "NoVoice")
        self.assertEqual(refusal_of(book.add_canon, "a", "a"), "NameTaken")
        book.drop("b")
        self.assertEqual(refusal_of(book.add_canon, "c", "b"), "NoVoice")


if __name__ == "__main__":
    unittest.main()
