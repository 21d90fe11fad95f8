"""What sounds in a book (points 22 and 23)."""

import inspect
import random
import unittest

from noteworth.book import Book
from noteworth.score import ending, meetings, rubs, sounding, spans, waits
from noteworth.texts import read_line
from plainly import PlainBook, drawn_good_deed, history


def book_of(*voices):
    """A book with voices by rows: `NAME: LINE`, or `NAME = LEADER LATER SLOW` and `turned` where it is so."""
    book = Book()
    for row in voices:
        if ":" in row:
            name, line = row.split(":")
            book.add_voice(name)
            for at, sign in enumerate(read_line(line.strip())):
                book.put(name, at, sign)
        else:
            name, leader, later, slow = row.replace("=", "").split()[:4]
            book.add_canon(name, leader, int(later), int(slow), row.endswith("turned"))
    return book


def plain_spans(model, name):
    """Spans by walking a voice beat by beat: each beat has the place of the sign that lasts there."""
    terms = model.canon(name)
    beats = [None] * (terms[1] if terms else 0)
    line = model.line(name)
    for at, worth in enumerate(model.kept(name)):
        beats += [at] * worth
    found = []
    for at, (kind, tone) in enumerate(line):
        if kind in "GDsd":
            found.append((beats.index(at), len(beats) - beats[::-1].index(at), tone))
    return found, len(beats)


def plain_score(model):
    """All answers of the score, held beat by beat."""
    names = model.names()
    sung = {name: plain_spans(model, name) for name in names}
    last = max([end for found, end in sung.values()], default=0)
    beats = range(last + 2)
    sets = {name: [set(range(start, end)) for start, end, tone in sung[name][0]] for name in names}
    rubbing = []
    for place, one in enumerate(names):
        for other in names[place + 1:]:
            for (start, end, tone), held in zip(sung[one][0], sets[one]):
                for (start, end, second), other_held in zip(sung[other][0], sets[other]):
                    if tone - second in (1, -1) and held & other_held:
                        rubbing.append((one, other, min(held & other_held), max(held & other_held) + 1))
    begun = [{start for start, end, tone in sung[name][0]} for name in names]
    return {
        "spans": {name: sung[name][0] for name in names},
        "ending": {name: sung[name][1] for name in names},
        "sounding": [[(name, tone) for name in names for start, end, tone in sung[name][0] if beat in range(start, end)]
                     for beat in beats],
        "meetings": sorted(set.intersection(*begun)) if begun else [],
        "rubs": rubbing,
        "waits": [(name, last - sung[name][1]) for name in names],
    }


def told_score(book):
    names = book.names()
    last = max([ending(book, name) for name in names], default=0)
    return {
        "spans": {name: spans(book, name) for name in names},
        "ending": {name: ending(book, name) for name in names},
        "sounding": [sounding(book, beat) for beat in range(last + 2)],
        "meetings": meetings(book),
        "rubs": rubs(book),
        "waits": waits(book),
    }


class SpansTest(unittest.TestCase):
    def test_a_plain_voice(self):
        book = book_of("a: G5 s1 . R r 2 D7 G8 . d9")
        self.assertEqual(book.kept("a"), [2, 1, 0, 3, 1, 0, 2, 3, 0, 1])
        self.assertEqual(spans(book, "a"), [(0, 2, 5), (2, 3, 1), (7, 9, 7), (9, 12, 8), (12, 13, 9)])
        self.assertEqual(ending(book, "a"), 13)

    def test_canons(self):
        book = book_of("a: G5 s1 2 r G8 .", "b = a 10 3", "c = a 999 2 turned", "d = a 0 1")
        self.assertEqual(spans(book, "a"), [(0, 2, 5), (2, 3, 1), (4, 7, 8)])
        self.assertEqual(spans(book, "b"), [(10, 16, 5), (16, 19, 1), (22, 31, 8)])
        self.assertEqual(book.kept("c"), [4, 2, 0, 2, 4, 0])
        self.assertEqual(spans(book, "c"), [(999, 1003, 5), (1003, 1005, 1), (1007, 1011, 8)])
        self.assertEqual(spans(book, "d"), spans(book, "a"))
        self.assertEqual([ending(book, name) for name in "abcd"], [7, 31, 1011, 7])

    def test_nothing_sounds(self):
        book = book_of("a:", "b: R r . 3", "c = a 5 1", "d = b 7 9")
        for name in "abcd":
            self.assertEqual(spans(book, name), [])
        self.assertEqual([ending(book, name) for name in "abcd"], [0, 4, 5, 43])

    def test_arguments_and_kinds(self):
        for asked, arguments in ((spans, "(book, name)"), (ending, "(book, name)"), (sounding, "(book, beat)"),
                                 (meetings, "(book)"), (rubs, "(book)"), (waits, "(book)")):
            self.assertEqual(str(inspect.signature(asked)), arguments)
        book = book_of("a: G5 s6", "b: G6 s5")
        for told in (spans(book, "a"), sounding(book, 0), rubs(book), waits(book)):
            self.assertIs(type(told), list)
            self.assertEqual({type(row) for row in told}, {tuple})
        self.assertEqual([type(beat) for beat in meetings(book)], [int, int])


class SoundingTest(unittest.TestCase):
    def test_about_a_span(self):
        book = book_of("a: R G5 . s7 r", "b = a 2 2", "c: . 3")
        self.assertEqual(spans(book, "a"), [(3, 6, 5), (6, 7, 7)])
        self.assertEqual(spans(book, "b"), [(8, 14, 5), (14, 16, 7)])
        due = {0: [], 2: [], 3: [("a", 5)], 5: [("a", 5)], 6: [("a", 7)], 7: [], 8: [("b", 5)], 13: [("b", 5)],
               14: [("b", 7)], 15: [("b", 7)], 16: [], 17: [], 10 ** 9: []}
        for beat, told in due.items():
            self.assertEqual(sounding(book, beat), told, beat)

    def test_by_the_order_of_the_names(self):
        book = book_of("z: G1", "m: G2", "a: G3", "b = m 0 1")
        self.assertEqual(sounding(book, 1), [("z", 1), ("m", 2), ("a", 3), ("b", 2)])
        book.drop("z")
        self.assertEqual(sounding(book, 1), [("m", 2), ("a", 3), ("b", 2)])
        book.undo()
        self.assertEqual(sounding(book, 1), [("z", 1), ("m", 2), ("a", 3), ("b", 2)])

    def test_an_empty_book(self):
        self.assertEqual(sounding(Book(), 0), [])
        self.assertEqual(sounding(Book(), 99), [])


class MeetingsTest(unittest.TestCase):
    def test_one_voice(self):
        self.assertEqual(meetings(book_of("a: G5 s1 . r 2 D7 d3")), [0, 2, 4, 6])

    def test_several(self):
        book = book_of("a: s1 s2 s3 s4 s5 s6", "b: G1 G2", "c: R s1 s2 s3")
        self.assertEqual(meetings(book), [3])
        book.drop("c")
        self.assertEqual(meetings(book), [0, 3])
        book.add_voice("d")
        self.assertEqual(meetings(book), [])
        book.put("d", 0, ("R", 0))
        self.assertEqual(meetings(book), [])
        book.put("d", 1, ("G", 0))
        self.assertEqual(meetings(book), [3])

    def test_an_empty_book(self):
        self.assertEqual(meetings(Book()), [])
        self.assertEqual(meetings(book_of("a:")), [])

    def test_a_canon_that_begins_later(self):
        self.assertEqual(meetings(book_of("a: s1 s2 s3 s4 s5 s6", "b = a 2 2")), [2, 4])
        self.assertEqual(meetings(book_of("a: s1 s2 s3", "b = a 3 1")), [])


class RubsTest(unittest.TestCase):
    def test_tones_that_differ_by_one(self):
        for tone in range(100):
            book = book_of("a: G50", f"b: G{tone}")
            self.assertEqual(rubs(book), [("a", "b", 0, 3)] if tone in (49, 51) else [], tone)

    def test_beats_in_common(self):
        for later in range(8):
            book = book_of("a: R G5", "x: G6 R", f"b = x {later} 1")
            told = [rub for rub in rubs(book) if rub[:2] == ("a", "b")]
            start, end = max(3, later), min(6, later + 3)
            self.assertEqual(told, [("a", "b", start, end)] if start < end else [], later)

    def test_order(self):
        book = book_of("z: s1 s2 s3", "b: G2", "a: s2 s1 s2")
        self.assertEqual(rubs(book), [
            ("z", "b", 0, 1), ("z", "b", 2, 3), ("z", "a", 0, 1), ("z", "a", 1, 2), ("z", "a", 2, 3), ("b", "a", 1, 2),
        ])

    def test_one_span_against_several(self):
        book = book_of("a: G5 G6", "b: s4 s6 s5 s5 s7 s6")
        self.assertEqual(rubs(book), [("a", "b", 0, 1), ("a", "b", 1, 2), ("a", "b", 3, 4), ("a", "b", 4, 5)])
        book = book_of("b: s4 s6 s5 s5 s7 s6", "a: G5 G6")
        self.assertEqual(rubs(book), [("b", "a", 0, 1), ("b", "a", 1, 2), ("b", "a", 3, 4), ("b", "a", 4, 5)])

    def test_a_voice_does_not_rub_against_itself(self):
        self.assertEqual(rubs(book_of("a: s1 s2 s1 s2")), [])
        self.assertEqual(rubs(Book()), [])
        self.assertEqual(rubs(book_of("a: s1 s2 s3", "b = a 1 1")), [("a", "b", 1, 2), ("a", "b", 2, 3)])


class WaitsTest(unittest.TestCase):
    def test_ends_together(self):
        book = book_of("b: G1 G2", "a: s1", "c = b 4 2", "d:")
        self.assertEqual(waits(book), [("b", 10), ("a", 15), ("c", 0), ("d", 16)])
        book.drop("c")
        self.assertEqual(waits(book), [("b", 0), ("a", 5), ("d", 6)])

    def test_empty(self):
        self.assertEqual(waits(Book()), [])
        self.assertEqual(waits(book_of("a:", "b:")), [("a", 0), ("b", 0)])
        self.assertEqual(waits(book_of("a:", "b = a 3 9")), [("a", 3), ("b", 0)])


class WholeScoreTest(unittest.TestCase):
    def test_drawn_books(self):
        for seed in range(25):
            chance = random.Random(seed)
            book, model = Book(), PlainBook()
            for turn in range(30):
                for deed in range(chance.randrange(1, 4)):
                    drawn = drawn_good_deed(chance, model)
                    if drawn[0] == "add_canon" and drawn[3] > 900:
                        drawn = drawn[:3] + (5,) + drawn[4:]
                    getattr(book, drawn[0])(*drawn[1:])
                    model.do(*drawn)
                told = told_score(book)
                self.assertEqual(told, plain_score(model))
                book.undo()
                model.do("undo")
                self.assertEqual(told_score(book), plain_score(model))
                book.redo()
                model.do("redo")
                self.assertEqual(told_score(book), told)

    def test_close_tones(self):
        """Voices whose tones lie close together rub often."""
        chance = random.Random(7)
        for many in range(40):
            book, model = Book(), PlainBook()
            names = chance.sample("abcdefgh", chance.randrange(2, 6))
            for name in names:
                deeds = [("add_voice", name)]
                if book.names() and chance.randrange(3) == 0:
                    plain = [other for other in book.names() if book.canon(other) is None]
                    terms = (chance.randrange(9), chance.randrange(1, 4), chance.choice((True, False)))
                    deeds = [("add_canon", name, chance.choice(plain)) + terms]
                else:
                    for at in range(chance.randrange(12)):
                        kind = chance.choice("GGsssdDRr.32")
                        deeds.append(("put", name, at, (kind, chance.randrange(4) if kind in "GDsd" else 0)))
                for drawn in deeds:
                    getattr(book, drawn[0])(*drawn[1:])
                    model.do(*drawn)
            self.assertEqual(told_score(book), plain_score(model))

    def test_twelve_full_voices(self):
        book = book_of("a: " + " ".join(["s1"] * 200), "b: " + " ".join(["s2"] * 200))
        for name in "cdefghijkl":
            book.add_canon(name, "ab"[ord(name) % 2], 0, 1)
        self.assertEqual(meetings(book), list(range(200)))
        told = rubs(book)
        self.assertEqual(len(told), 36 * 200)
        self.assertEqual(told, sorted(told))
        self.assertEqual(waits(book), [(name, 0) for name in "abcdefghijkl"])

    def test_the_questions_leave_the_book(self):
        book = book_of("a: G5 s1 s2", "b = a 2 1 turned", "c: G6")
        book.cut("a", 0)
        book.put("c", 0, ("s", 2))
        book.undo()
        before = history(book)
        told_score(book)
        self.assertEqual(history(book), before)

    def test_what_is_handed_out_may_be_changed(self):
        book = book_of("a: G5 s1 G7", "b: G6 s1 s2")
        before = told_score(book)
        for asked in (meetings, rubs, waits):
            told = asked(book)
            told.reverse()
            told.append(("x", 1))
            asked(book).clear()
        spans(book, "a").clear()
        sounding(book, 0).append(1)
        self.assertEqual(told_score(book), before)


if __name__ == "__main__":
    unittest.main()
