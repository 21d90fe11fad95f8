"""The windows that deeds in a line tell (point 20)."""

import random
import unittest

from noteworth.book import Book
from plainly import KINDS, kinds_of, line_of, plain_window, plain_worths, short_lines


def deeds_in(kinds, others=KINDS):
    """Each deed in a line of these kinds: its name, its place, and the kind put or swapped in."""
    for at in range(len(kinds) + 1):
        yield from [("put", at, kind) for kind in others]
    for at in range(len(kinds)):
        yield ("cut", at, "")
        yield from [("swap", at, kind) for kind in others]


def book_of(kinds):
    book = Book()
    book.add_voice("a")
    for at, sign in enumerate(line_of(kinds)):
        book.put("a", at, sign)
    return book


def done(book, deed, at, kind):
    """Do a deed in the voice `a`; return the window."""
    sign = (kind, 55 if kind in tuple("GDsd") else 0)
    if deed == "cut":
        return book.cut("a", at)
    return book.put("a", at, sign) if deed == "put" else book.swap("a", at, sign)


class WindowTest(unittest.TestCase):
    def told(self, kinds, deed, at, kind=""):
        return done(book_of(kinds), deed, at, kind)

    def check(self, book, kinds, deed, at, kind):
        """One deed and its undoing in a book whose voice `a` has a line of these kinds."""
        low, high = done(book, deed, at, kind)
        behind = kinds_of(book.line("a"))
        gone = "" if deed == "put" else kinds[at]
        self.assertEqual((low, high), plain_window(deed, at, behind, kind + gone), (kinds, deed, at, kind))
        self.assertTrue(0 <= low <= at <= high <= len(behind))
        more = len(kinds) - len(behind)
        before, now = plain_worths(kinds, 3), book.kept("a")
        self.assertEqual(now[:low], before[:low], (kinds, deed, at, kind))
        self.assertEqual(now[high:], before[high + more:], (kinds, deed, at, kind))
        book.undo()

    def test_low(self):
        """None, one and two great or parting signs to the left of the place; small ones between."""
        for mark in "GDR.32":
            for other in "GDR.32":
                for at, low in ((0, 0), (1, 0), (2, 0), (3, 0), (4, 0), (5, 1), (6, 1)):
                    kinds = "s" + mark + "ss" + other + "s"
                    self.assertEqual(self.told(kinds, "put", at, "s")[0], low if at >= 5 else 0)
                    if at < len(kinds):
                        self.assertEqual(self.told(kinds, "cut", at)[0], low)
                        self.assertEqual(self.told(kinds, "swap", at, "G")[0], low)
        self.assertEqual(self.told("GGGG", "put", 4, "G")[0], 2)
        self.assertEqual(self.told("GGGG", "put", 2, "G")[0], 0)
        self.assertEqual(self.told("GGGG", "cut", 3)[0], 1)
        self.assertEqual(self.told("sssss", "cut", 3)[0], 0)

    def test_the_sign_at_the_place_is_not_counted(self):
        self.assertEqual(self.told("sGsGsG", "swap", 5, "D")[0], 1)
        self.assertEqual(self.told("sGsGsG", "swap", 3, "D")[0], 0)
        self.assertEqual(self.told("sGsG", "put", 3, "G")[0], 0)

    def test_high_by_the_next_dot_or_measure_sign(self):
        for bound in ".32":
            for deed, high in (("put", 5), ("cut", 3), ("swap", 4)):
                for kind in "GDRsdr.":
                    self.assertEqual(self.told("sGds" + bound + "G..", deed, 1, kind)[1], high, (bound, deed, kind))

    def test_high_from_the_next_place_on(self):
        self.assertEqual(self.told("s.s.", "put", 1, ".")[1], 2)
        self.assertEqual(self.told("s.s.", "put", 2, ".")[1], 4)
        self.assertEqual(self.told("s.s.", "swap", 1, "s")[1], 3)
        self.assertEqual(self.told("s.s.", "swap", 0, ".")[1], 1)
        self.assertEqual(self.told("s.s.", "cut", 0)[1], 0)
        self.assertEqual(self.told("s.s.", "cut", 1)[1], 2)
        self.assertEqual(self.told("s..", "cut", 1)[1], 1)

    def test_high_by_measure_signs_alone(self):
        for sign in "32":
            for bound in "32":
                kinds = "sG.s" + bound + "s."
                self.assertEqual(self.told(kinds, "put", 1, sign)[1], 5)
                self.assertEqual(self.told(kinds, "swap", 1, sign)[1], 4)
                kinds = "s" + sign + ".s" + bound + "s."
                self.assertEqual(self.told(kinds, "cut", 1)[1], 3)
                for kind in KINDS:
                    self.assertEqual(self.told(kinds, "swap", 1, kind)[1], 4)

    def test_high_by_the_line_s_end(self):
        self.assertEqual(self.told("", "put", 0, "G"), (0, 1))
        self.assertEqual(self.told("G", "cut", 0), (0, 0))
        self.assertEqual(self.told("G", "swap", 0, "2"), (0, 1))
        self.assertEqual(self.told("sss", "put", 3, "s"), (0, 4))
        self.assertEqual(self.told("s.s.", "put", 0, "2"), (0, 5))
        self.assertEqual(self.told("2.s.", "cut", 0), (0, 3))
        self.assertEqual(self.told("s.ss", "put", 3, "s"), (0, 5))

    def test_a_left_note_two_great_signs_away(self):
        """A great sign put in behind a right note makes the run ahead of it loose."""
        book = book_of("sss.GddG")
        self.assertEqual(book.kept("a"), [1, 1, 1, 0, 2, 1, 1, 2])
        self.assertEqual(book.put("a", 8, ("R", 0)), (4, 9))
        self.assertEqual(book.kept("a"), [1, 1, 1, 0, 3, 1, 1, 3, 3])

    def test_each_deed_in_short_lines(self):
        for kinds in short_lines(3):
            book = book_of(kinds)
            for deed, at, kind in deeds_in(kinds):
                self.check(book, kinds, deed, at, kind)

    def test_each_deed_in_longer_lines(self):
        chance = random.Random(20)
        for many in range(150):
            bag = ("GsdGsdGsdr.", "Gdd", "GGsdDR", KINDS, "Gs.2", "ssdG3.")[many % 6]
            kinds = "".join(chance.choices(bag, k=chance.randrange(4, 14)))
            book = book_of(kinds)
            for deed, at, kind in deeds_in(kinds):
                self.check(book, kinds, deed, at, kind)

    def test_each_place_in_long_lines(self):
        chance = random.Random(21)
        for bag in ("GsdGsdGsdr", "GsdGsdGsdGsdGsdGsdGsdr.DR", "GsdrDR" * 6 + ".32", "s", "G"):
            kinds = "".join(chance.choices(bag, k=199))
            book = book_of(kinds)
            for deed, at, kind in deeds_in(kinds, "G.2s"):
                if at % 7 == 0 or at > 195:
                    self.check(book, kinds, deed, at, kind)

    def test_for_every_reading(self):
        """Ahead of the window and from its high end on a canon's worths stay too."""
        chance = random.Random(22)
        for many in range(40):
            kinds = "".join(chance.choices("GsdGsdGsdr.32", k=chance.randrange(3, 12)))
            book = book_of(kinds)
            book.add_canon("b", "a", 0, 1, True)
            before = book.kept("b")
            for deed, at, kind in deeds_in(kinds):
                low, high = done(book, deed, at, kind)
                now = book.kept("b")
                self.assertEqual(now[:low], before[:low])
                self.assertEqual(now[high:], before[high + len(before) - len(now):])
                book.undo()


if __name__ == "__main__":
    unittest.main()
