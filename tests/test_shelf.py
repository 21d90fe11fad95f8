"""A book as text and back (point 24)."""

import inspect
import random
import unittest

from noteworth.book import Book
from noteworth.errors import BadRow
from noteworth.shelf import read_book, shown_book
from noteworth.texts import read_line, shown_line
from plainly import KINDS, NAMES, PlainBook, drawn_good_deed, history, line_of, long_lines, refusal_of, whole

GOOD_ROWS = ("voice a G5 s17 R", "voice b", "canon c a 0 1 straight", "voice d .", "canon e b 999 9 turned")

BAD_ROWS = [
    "", " ", "x", "voice", "voice ", " voice x", "voice  x", "voice x ", "voice x  G5", "voice x G5 ", "voice x G5  s1",
    "Voice x", "voices x", "voicex", "VOICE x", "canons x a 0 1 straight", "Canon x a 0 1 straight",
    "voice X", "voice x1", "voice ninelette", "voice x_y", "voice x,G5", "voice x\tG5", "voice x\r",
    "voice x G", "voice x G100", "voice x G05", "voice x x", "voice x G5 R0", "voice x 4", "voice x G5,s1",
    "voice x voice",
    "canon", "canon x", "canon x a", "canon x a 0", "canon x a 0 1", "canon x a 0 1 straight straight",
    "canon x a 0 1 straight ", " canon x a 0 1 straight", "canon x a 0 1  straight", "canon x a 0  1 straight",
    "canon x  a 0 1 straight", "canon  x a 0 1 straight", "canon x a  0 1 straight", "canon x a 0 1 straight G5",
    "canon x a 0 straight", "canon x a 1 straight", "canon x 0 1 straight", "canon a 0 1 straight", "canon x a 0 1 ",
    "canon x a 00 1 straight", "canon x a 01 1 straight", "canon x a 007 1 straight", "canon x a 0 01 straight",
    "canon x a -0 1 straight", "canon x a -1 1 straight", "canon x a +1 1 straight", "canon x a 1_0 1 straight",
    "canon x a one 1 straight", "canon x a 1. 1 straight", "canon x a 0 1a straight", "canon x a 0 -1 straight",
    "canon x a 1000 1 straight", "canon x a 9999 1 straight", "canon x a 0 0 straight", "canon x a 0 10 straight",
    "canon x a 0 99 turned", "canon x a " + "9" * 5000 + " 1 straight", "canon x a 0 " + "1" * 5000 + " straight",
    "canon x a " + "0" * 5000 + " 1 straight",
    "canon x a 0 1 Straight", "canon x a 0 1 turn", "canon x a 0 1 True", "canon x a 0 1 straightturned",
    "canon X a 0 1 straight", "canon ninelette a 0 1 straight", "canon x nobody 0 1 straight", "canon x x 0 1 straight",
    "canon x A 0 1 straight", "canon x ninelette 0 1 turned",
]


class ShownBookTest(unittest.TestCase):
    def test_rows(self):
        book = Book()
        self.assertEqual(shown_book(book), "")
        book.add_voice("b")
        self.assertEqual(shown_book(book), "voice b")
        book.put("b", 0, ("G", 5))
        self.assertEqual(shown_book(book), "voice b G5")
        book.put("b", 1, ("2", 0))
        book.add_canon("a", "b", 0, 1)
        self.assertEqual(shown_book(book), "voice b G5 2\ncanon a b 0 1 straight")
        book.add_canon("zzzzzzzz", "b", 999, 9, True)
        book.add_voice("c")
        self.assertEqual(shown_book(book).split("\n"), [
            "voice b G5 2", "canon a b 0 1 straight", "canon zzzzzzzz b 999 9 turned", "voice c",
        ])

    def test_every_sign(self):
        book = Book()
        book.add_voice("a")
        for at, sign in enumerate(line_of(KINDS)):
            book.put("a", at, sign)
        self.assertEqual(shown_book(book), "voice a " + shown_line(line_of(KINDS)))

    def test_numbers(self):
        for later in (0, 1, 9, 10, 99, 100, 999):
            for slow in range(1, 10):
                book = read_book("voice a")
                book.add_canon("b", "a", later, slow, slow % 2 == 0)
                way = "straight" if slow % 2 else "turned"
                self.assertEqual(shown_book(book), f"voice a\ncanon b a {later} {slow} {way}")
                self.assertEqual(read_book(shown_book(book)).canon("b"), ("a", later, slow, slow % 2 == 0))

    def test_the_book_stays(self):
        book = read_book("\n".join(GOOD_ROWS))
        book.cut("a", 0)
        book.drop("e")
        book.undo()
        before = history(book)
        self.assertEqual(shown_book(book).split("\n")[1:], list(GOOD_ROWS)[1:])
        self.assertEqual(history(book), before)

    def test_arguments(self):
        self.assertEqual(str(inspect.signature(shown_book)), "(book)")
        self.assertEqual(str(inspect.signature(read_book)), "(text)")


class ReadBookTest(unittest.TestCase):
    def test_empty(self):
        book = read_book("")
        self.assertIsInstance(book, Book)
        self.assertEqual(history(book), (0, [[]]))

    def test_rows(self):
        book = read_book("\n".join(GOOD_ROWS))
        self.assertEqual(book.names(), ["a", "b", "c", "d", "e"])
        self.assertEqual([book.canon(name) for name in "abcde"],
                         [None, None, ("a", 0, 1, False), None, ("b", 999, 9, True)])
        self.assertIs(book.canon("c")[3], False)
        self.assertIs(book.canon("e")[3], True)
        self.assertEqual(shown_line(book.line("a")), "G5 s17 R")
        self.assertEqual(book.kept("c"), [2, 1, 3])
        self.assertEqual(history(book), (0, [whole(book)]))

    def test_there_and_back(self):
        for seed in range(40):
            chance = random.Random(seed)
            book, model = Book(), PlainBook()
            for turn in range(chance.choice((0, 1, 5, 20, 100, 400))):
                drawn = drawn_good_deed(chance, model)
                getattr(book, drawn[0])(*drawn[1:])
                model.do(*drawn)
            before = history(book)
            text = shown_book(book)
            back = read_book(text)
            self.assertEqual(whole(back), whole(book))
            self.assertEqual(shown_book(back), text)
            self.assertEqual(history(back), (0, [whole(book)]))
            for name in back.names()[::-1]:
                back.drop(name)
            back.add_voice("other")
            self.assertEqual(history(book), before)

    def test_none_to_twelve_voices(self):
        for many in range(13):
            book = Book()
            for at, name in enumerate(NAMES[:many]):
                if at % 3 == 2:
                    book.add_canon(name, NAMES[at - 1], at, at // 2, at % 2 == 0)
                else:
                    book.add_voice(name)
                    book.put(name, 0, ("G", at))
            back = read_book(shown_book(book))
            self.assertEqual(whole(back), whole(book))
            self.assertEqual(len(back.names()), many)

    def test_nothing_to_undo_or_to_do_again(self):
        book = read_book("voice a G5\nvoice b")
        for again in range(2):
            self.assertEqual(refusal_of(book.undo), "NoMore")
            self.assertEqual(refusal_of(book.redo), "NoMore")
        book.put("a", 0, ("s", 1))
        book.undo()
        self.assertEqual(refusal_of(book.undo), "NoMore")
        self.assertEqual(shown_book(book), "voice a G5\nvoice b")
        book.redo()
        self.assertEqual(shown_book(book), "voice a s1 G5\nvoice b")

    def test_read_twice(self):
        text = "voice a G5\ncanon b a 1 2 turned"
        one, other = read_book(text), read_book(text)
        one.put("a", 0, ("2", 0))
        one.drop("b")
        self.assertEqual(shown_book(other), text)
        self.assertEqual(refusal_of(other.undo), "NoMore")

    def test_after_undoings(self):
        book = Book()
        for name in "abc":
            book.add_voice(name)
        book.drop("a")
        book.undo()
        book.add_canon("d", "b")
        self.assertEqual(read_book(shown_book(book)).names(), ["a", "b", "c", "d"])


class BadRowTest(unittest.TestCase):
    def check(self, rows, at):
        with self.assertRaises(BadRow) as caught:
            read_book("\n".join(rows))
        self.assertEqual(caught.exception.at, at, rows)

    def test_each_bad_row_at_each_place(self):
        for bad in BAD_ROWS:
            for at in range(len(GOOD_ROWS) + 1):
                rows = list(GOOD_ROWS)
                rows.insert(at, bad)
                # The empty text alone writes the empty book.
                self.check(rows, at)
            if bad != "":
                self.check([bad], 0)

    def test_the_first_bad_one(self):
        for bad in BAD_ROWS:
            for at in range(len(GOOD_ROWS)):
                rows = list(GOOD_ROWS)
                rows[at] = "canon e"
                self.check(rows + [bad], at)
                self.check(rows + [bad] + list(GOOD_ROWS), at)

    def test_empty_rows(self):
        self.check(["", ""], 0)
        self.check(["voice a", ""], 1)
        self.check(["", "voice a"], 0)
        self.check(["voice a", "", "voice b"], 1)

    def test_a_leader_that_is_not_there_yet(self):
        self.check(["canon b a 0 1 straight", "voice a"], 0)
        self.check(["voice x", "canon b a 0 1 straight", "voice a"], 1)

    def test_a_leader_that_is_a_canon(self):
        self.check(["voice a", "canon b a 0 1 straight", "canon c b 0 1 straight"], 2)

    def test_a_name_twice(self):
        self.check(["voice a", "voice a"], 1)
        self.check(["voice a", "voice b G5", "voice a G5"], 2)
        self.check(["voice a", "canon a a 0 1 straight"], 1)
        self.check(["voice a", "canon b a 0 1 straight", "voice b"], 2)

    def test_a_thirteenth_voice(self):
        rows = ["voice " + name for name in NAMES]
        self.assertEqual(read_book("\n".join(rows[:12])).names(), list(NAMES[:12]))
        self.check(rows, 12)
        self.check(rows[:12] + ["canon x a 0 1 straight"], 12)
        self.check(rows[:12] + ["nothing"], 12)

    def test_long_lines(self):
        for kinds in long_lines(6):
            line = shown_line(line_of((kinds * 30)[:201])).split(" ")
            book = read_book("voice b\nvoice a " + " ".join(line[:200]))
            self.assertEqual(book.line("a"), read_line(" ".join(line[:200])))
            self.check(["voice b", "voice a " + " ".join(line)], 1)
            self.check(["voice a " + " ".join(line), "voice b"], 0)
            self.check(["voice a " + " ".join(line[:200]), "voice b " + " ".join(line[:200] + ["x"])], 1)

    def test_each_word_that_writes_no_sign(self):
        for word in ("g5", "S1", "G", "G-1", "G100", "R0", ".0", "33", "", "voice", "-"):
            for rest in ("", " G5"):
                self.check(["voice b", "voice a G5 " + word + rest, "voice c"], 1)
                self.check(["voice b", "voice a " + word + rest], 1)

    def test_the_refusal(self):
        self.assertEqual(refusal_of(read_book, "x"), "BadRow")
        self.assertEqual(refusal_of(read_book, "voice a x"), "BadRow")
        self.assertEqual(refusal_of(read_book, "voice a\nvoice a"), "BadRow")


if __name__ == "__main__":
    unittest.main()
