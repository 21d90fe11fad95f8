"""A book's deeds, its names, its lines and its kept worths (points 16 to 19)."""

import inspect
import random
import unittest

from noteworth.book import Book
from noteworth.errors import NoMore
from noteworth.texts import read_line, shown_line
from plainly import (
    KINDS, NAMES, PlainBook, drawn_deed, drawn_good_deed, history, line_of, long_lines, plain_worths, refusal_of,
    short_lines, whole,
)


def book_with(**lines):
    """A book with plain voices that have these lines."""
    book = Book()
    for name, text in lines.items():
        book.add_voice(name)
        for at, sign in enumerate(read_line(text)):
            book.put(name, at, sign)
    return book


def rewritten(book, name, line):
    """Make a voice's line another one."""
    while book.line(name):
        book.cut(name, 0)
    for at, sign in enumerate(line):
        book.put(name, at, sign)


class DeedsTest(unittest.TestCase):
    def test_begun_empty(self):
        book = Book()
        self.assertEqual(book.names(), [])
        self.assertEqual(whole(book), [])
        self.assertIs(book.add_voice("a"), None)
        self.assertEqual(whole(book), [("a", [], [], None)])

    def test_put_at_each_place(self):
        for sign in line_of(KINDS):
            for at in range(5):
                book = book_with(a="G1 s2 . D3", b="s1 s2")
                book.put("a", at, sign)
                due = read_line("G1 s2 . D3")
                due.insert(at, sign)
                self.assertEqual(book.line("a"), due)
                self.assertEqual(shown_line(book.line("b")), "s1 s2")

    def test_cut_and_swap_at_each_place(self):
        for at in range(5):
            book = book_with(a="G1 s2 . D3 2", b="s1 s2")
            book.cut("a", at)
            due = read_line("G1 s2 . D3 2")
            del due[at]
            self.assertEqual(book.line("a"), due)
            self.assertEqual(shown_line(book.line("b")), "s1 s2")
            for sign in line_of(KINDS):
                book = book_with(a="G1 s2 . D3 2", b="s1 s2")
                book.swap("a", at, sign)
                due = read_line("G1 s2 . D3 2")
                due[at] = sign
                self.assertEqual(book.line("a"), due)
                self.assertEqual(shown_line(book.line("b")), "s1 s2")

    def test_cut_to_nothing(self):
        book = book_with(a="G1 s2 .")
        for left in ("G1 .", ".", ""):
            book.cut("a", 1 if left == "G1 ." else 0)
            self.assertEqual(shown_line(book.line("a")), left)
        self.assertEqual(book.kept("a"), [])

    def test_swapped_for_the_same_sign(self):
        """That is a deed too: it can be undone, and ends the doing again."""
        book = book_with(a="G1 s2")
        before = whole(book)
        book.cut("a", 0)
        book.undo()
        book.swap("a", 0, ("G", 1))
        self.assertEqual(whole(book), before)
        self.assertEqual(refusal_of(book.redo), "NoMore")
        book.undo()
        self.assertEqual(whole(book), before)
        book.redo()
        self.assertEqual(whole(book), before)
        self.assertEqual(history(book)[0], 4)

    def test_dropped(self):
        book = book_with(a="G1", b="s2", c="R")
        self.assertIs(book.drop("b"), None)
        self.assertEqual(book.names(), ["a", "c"])
        book.drop("a")
        book.drop("c")
        self.assertEqual(book.names(), [])

    def test_put_in_anew_it_is_empty_and_stands_last(self):
        book = book_with(a="G1", b="s2")
        book.drop("a")
        book.add_voice("a")
        self.assertEqual(whole(book), [("b", [("s", 2)], [1], None), ("a", [], [], None)])

    def test_names_by_order(self):
        for names in (NAMES[:12], NAMES[:0:-1], ("c", "a", "b")):
            book = Book()
            for name in names:
                book.add_voice(name)
            self.assertEqual(book.names(), list(names))

    def test_kinds_and_arguments(self):
        book = book_with(a="G1 s2", b="")
        book.add_canon("c", "a")
        self.assertIs(type(book.names()), list)
        for name in "abc":
            self.assertIs(type(book.line(name)), list)
            self.assertIs(type(book.kept(name)), list)
        self.assertEqual({type(worth) for worth in book.kept("a") + book.kept("c")}, {int})
        self.assertEqual({type(sign) for sign in book.line("a") + book.line("c")}, {tuple})
        for window in (book.put("a", 0, ("R", 0)), book.swap("a", 0, ("r", 0)), book.cut("a", 0)):
            self.assertIs(type(window), tuple)
            self.assertEqual([type(end) for end in window], [int, int])
        self.assertIs(book.undo(), None)
        self.assertIs(book.redo(), None)
        self.assertIs(book.add_canon("d", "a"), None)
        due = {
            "add_voice": "(name)", "add_canon": "(name, leader, later=0, slow=1, is_turned=False)", "drop": "(name)",
            "undo": "()", "redo": "()", "put": "(name, at, sign)", "cut": "(name, at)", "swap": "(name, at, sign)",
            "names": "()", "line": "(name)", "kept": "(name)", "canon": "(name)",
        }
        for name, arguments in due.items():
            self.assertEqual(str(inspect.signature(getattr(book, name))), arguments, name)
        self.assertEqual(str(inspect.signature(Book)), "()")

    def test_arguments_by_name(self):
        book = Book()
        book.add_voice(name="a")
        book.put(name="a", at=0, sign=("G", 1))
        book.swap(name="a", at=0, sign=("2", 0))
        book.add_canon(name="b", leader="a", later=2, slow=3, is_turned=True)
        self.assertEqual(book.canon(name="b"), ("a", 2, 3, True))
        self.assertEqual((book.line(name="b"), book.kept(name="b")), ([("3", 0)], [0]))
        book.cut(name="a", at=0)
        book.drop(name="b")
        self.assertEqual(whole(book), [("a", [], [], None)])


class CopiesTest(unittest.TestCase):
    def test_what_is_handed_out_may_be_changed(self):
        book = book_with(a="G1 s2 G3 2 G4 .", b="s5", c="")
        book.add_canon("d", "a", 3, 2, True)
        book.add_canon("e", "a")
        before = whole(book)
        for name in "abcde":
            for asked in (book.line, book.kept):
                told = asked(name)
                told.reverse()
                told.append(("R", 0))
                told[0] = 7
                asked(name).clear()
                self.assertEqual(whole(book), before)
        names = book.names()
        names.reverse()
        names.append("x")
        book.names().clear()
        self.assertEqual(whole(book), before)
        book.put("a", 0, ("s", 9))
        self.assertEqual(shown_line(book.line("a")), "s9 G1 s2 G3 2 G4 .")
        book.undo()
        self.assertEqual(whole(book), before)

    def test_changed_between_deeds_and_undoings(self):
        chance = random.Random(5)
        book, model = Book(), PlainBook()
        for many in range(200):
            drawn = drawn_good_deed(chance, model)
            getattr(book, drawn[0])(*drawn[1:])
            model.do(*drawn)
            for name in book.names():
                book.line(name).clear()
                book.kept(name).append(1)
            book.names().clear()
        while model.past:
            self.assertEqual(whole(book), whole(model))
            for name in book.names():
                book.line(name).append(("x", 1))
            book.undo()
            model.do("undo")
        self.assertEqual(book.names(), [])

    def test_two_books_do_not_touch(self):
        sign = ("G", 5)
        one, other = Book(), Book()
        one.add_voice("a")
        self.assertEqual(other.names(), [])
        self.assertEqual(refusal_of(other.undo), "NoMore")
        other.add_voice("a")
        one.put("a", 0, sign)
        self.assertEqual(other.line("a"), [])
        other.put("a", 0, sign)
        other.put("a", 0, ("s", 1))
        one.undo()
        self.assertEqual(other.line("a"), [("s", 1), ("G", 5)])
        self.assertEqual(refusal_of(other.redo), "NoMore")
        one.redo()
        self.assertEqual(one.line("a"), [sign])
        self.assertEqual((history(one)[0], history(other)[0]), (2, 3))


class KeptTest(unittest.TestCase):
    def test_always_those_of_the_line_read_afresh(self):
        for kinds in list(short_lines(2)) + [kinds[:60] for kinds in long_lines(10)]:
            book = book_with(a="")
            book.add_canon("b", "a", 0, 3, False)
            book.add_canon("c", "a", 0, 9, True)
            for at, sign in enumerate(line_of(kinds)):
                book.put("a", at, sign)
                self.check(book, kinds[:at + 1])
            for at in range(len(kinds)):
                book.undo()
                self.check(book, kinds[:len(kinds) - at - 1])
            for at in range(len(kinds)):
                book.redo()
                self.check(book, kinds[:at + 1])

    def check(self, book, kinds):
        turned = kinds.replace("3", "x").replace("2", "3").replace("x", "2")
        self.assertEqual(book.kept("a"), plain_worths(kinds, 3), kinds)
        self.assertEqual(book.kept("b"), [3 * worth for worth in plain_worths(kinds, 3)], kinds)
        self.assertEqual(book.kept("c"), [9 * worth for worth in plain_worths(turned, 2)], kinds)

    def test_two_hundred_signs(self):
        for kinds in long_lines(15):
            kinds = (kinds * 30)[:200]
            book = book_with(a="")
            book.add_canon("b", "a", 0, 3, False)
            book.add_canon("c", "a", 0, 9, True)
            rewritten(book, "a", line_of(kinds))
            self.check(book, kinds)
            for at in (0, 1, 99, 198):
                book.cut("a", at)
                kinds = kinds[:at] + kinds[at + 1:]
                self.check(book, kinds)
                book.put("a", at, ("2", 0))
                kinds = kinds[:at] + "2" + kinds[at:]
                self.check(book, kinds)

    def test_far_to_the_right(self):
        """A deed at the beginning changes worths all along the line, up to the next parting sign."""
        book = book_with(a="")
        rewritten(book, "a", line_of("Gs" * 99 + "G"))
        self.assertEqual(book.kept("a"), [2, 1] * 99 + [3])
        book.put("a", 0, ("s", 1))
        self.assertEqual(book.kept("a"), [1, 2] + [1, 2] * 99)
        book.undo()
        self.assertEqual(book.kept("a"), [2, 1] * 99 + [3])


class CanonTest(unittest.TestCase):
    def test_terms(self):
        book = book_with(a="G1")
        book.add_canon("b", "a")
        book.add_canon("c", "a", 5)
        book.add_canon("d", "a", 0, 9)
        book.add_canon("e", "a", 999, 1, True)
        book.add_canon("f", "a", is_turned=True)
        book.add_canon("g", "a", slow=2)
        self.assertEqual([book.canon(name) for name in "abcdefg"], [
            None, ("a", 0, 1, False), ("a", 5, 1, False), ("a", 0, 9, False), ("a", 999, 1, True),
            ("a", 0, 1, True), ("a", 0, 2, False),
        ])
        for name in "bcdefg":
            self.assertIs(type(book.canon(name)), tuple)
            self.assertIs(type(book.canon(name)[3]), bool)

    def test_line_and_kept(self):
        book = book_with(a="G1 s2 2 G3 . 3 G4 s5")
        book.add_canon("b", "a", 4, 3)
        book.add_canon("c", "a", 4, 2, True)
        self.assertEqual(book.line("b"), book.line("a"))
        self.assertEqual(book.kept("b"), [6, 3, 0, 9, 0, 0, 6, 3])
        self.assertEqual(shown_line(book.line("c")), "G1 s2 3 G3 . 2 G4 s5")
        self.assertEqual(book.kept("c"), [4, 2, 0, 6, 0, 0, 4, 2])
        self.assertEqual(book.kept("a"), [2, 1, 0, 3, 0, 0, 2, 1])

    def test_ahead_of_and_behind_each_deed_in_the_leader(self):
        for deed in (("put", "a", 1, ("2", 0)), ("cut", "a", 2), ("swap", "a", 0, ("3", 0))):
            book = book_with(a="G1 s2 2 G3 .", x="G1")
            book.add_canon("b", "a", 4, 3)
            book.add_canon("c", "a", 0, 2, True)
            book.add_canon("d", "x", 0, 2, True)
            model = PlainBook()
            model.voices = [(name, tuple(book.line(name)) if name in "ax" else None, book.canon(name))
                            for name in book.names()]
            before = whole(book)
            self.assertEqual(before, whole(model))
            getattr(book, deed[0])(*deed[1:])
            model.do(*deed)
            self.assertEqual(whole(book), whole(model))
            self.assertNotEqual(whole(book), before)
            self.assertEqual([book.canon(name) for name in "bcd"], [told[3] for told in before[2:]])
            book.undo()
            self.assertEqual(whole(book), before)
            book.redo()
            self.assertEqual(whole(book), whole(model))

    def test_of_an_empty_line(self):
        book = book_with(a="")
        book.add_canon("b", "a", 4, 3, True)
        self.assertEqual((book.line("b"), book.kept("b"), book.canon("b")), ([], [], ("a", 4, 3, True)))

    def test_a_leader_stays_till_its_last_canon_is_dropped(self):
        book = book_with(a="G1", x="")
        book.add_canon("b", "a")
        book.add_canon("c", "a", 1)
        for name in ("b", "c"):
            self.assertEqual(refusal_of(book.drop, "a"), "Leaned")
            book.drop(name)
        book.drop("a")
        self.assertEqual(book.names(), ["x"])
        book.undo()
        book.undo()
        self.assertEqual(refusal_of(book.drop, "a"), "Leaned")


class UndoTest(unittest.TestCase):
    def test_each_deed(self):
        deeds = (
            ("add_voice", "z"), ("add_canon", "z", "a", 3, 2, True), ("drop", "b"), ("drop", "c"),
            ("put", "a", 0, ("s", 1)), ("put", "a", 3, ("s", 1)), ("cut", "a", 1), ("swap", "a", 2, ("3", 0)),
        )
        for deed in deeds:
            book = book_with(a="G1 s2 .", b="s3")
            book.add_canon("c", "a")
            before = whole(book)
            getattr(book, deed[0])(*deed[1:])
            behind = whole(book)
            self.assertNotEqual(behind, before)
            for again in range(3):
                book.undo()
                self.assertEqual(whole(book), before, deed)
                book.redo()
                self.assertEqual(whole(book), behind, deed)
                self.assertEqual(refusal_of(book.redo), "NoMore")

    def test_a_voice_comes_back_where_it_stood(self):
        for dropped in ("a", "b", "c", "d"):
            book = book_with(a="G1", b="s2 s3", c="R", d="")
            book.drop(dropped)
            self.assertNotIn(dropped, book.names())
            book.undo()
            self.assertEqual(book.names(), ["a", "b", "c", "d"])
            self.assertEqual(shown_line(book.line("b")), "s2 s3")

    def test_several_come_back_with_their_canons(self):
        book = book_with(a="G1", b="s2 s3", c="R")
        book.add_canon("d", "b", 7, 2, True)
        book.add_canon("e", "b")
        book.add_voice("f")
        before = whole(book)
        for name in ("d", "e", "b", "f", "a"):
            book.drop(name)
        self.assertEqual(book.names(), ["c"])
        orders = (["a", "c"], ["a", "c", "f"], ["a", "b", "c", "f"], ["a", "b", "c", "e", "f"])
        for names in orders:
            book.undo()
            self.assertEqual(book.names(), names)
        book.undo()
        self.assertEqual(whole(book), before)
        book.put("b", 0, ("2", 0))
        self.assertEqual(shown_line(book.line("d")), "3 s2 s3")

    def test_a_name_put_in_anew_between(self):
        book = book_with(a="G1", b="s2")
        book.drop("a")
        book.add_voice("a")
        book.put("a", 0, ("R", 0))
        done, told = history(book)
        self.assertEqual(done, 7)
        self.assertEqual(told[4], [("a", [("G", 1)], [3], None), ("b", [("s", 2)], [1], None)])
        self.assertEqual(told[7], [("b", [("s", 2)], [1], None), ("a", [("R", 0)], [3], None)])

    def test_no_more_at_both_ends_each_time(self):
        book = Book()
        for again in range(3):
            for asked in (book.undo, book.redo):
                with self.assertRaises(NoMore):
                    asked()
        book.add_voice("a")
        for again in range(3):
            self.assertEqual(refusal_of(book.redo), "NoMore")
        self.assertEqual(book.names(), ["a"])
        book.undo()
        for again in range(3):
            self.assertEqual(refusal_of(book.undo), "NoMore")
        self.assertEqual(book.names(), [])
        book.redo()
        self.assertEqual(book.names(), ["a"])

    def test_a_new_deed_ends_the_doing_again(self):
        for deed in (("add_voice", "z"), ("add_canon", "z", "a"), ("drop", "a"), ("put", "a", 0, ("R", 0)),
                     ("cut", "a", 0), ("swap", "a", 0, ("R", 0))):
            book = book_with(a="G1 s2 .")
            book.put("a", 0, ("s", 5))
            book.put("a", 0, ("s", 6))
            book.undo()
            book.undo()
            getattr(book, deed[0])(*deed[1:])
            behind = whole(book)
            self.assertEqual(refusal_of(book.redo), "NoMore", deed)
            self.assertEqual(whole(book), behind)
            book.undo()
            self.assertEqual(shown_line(book.line("a")), "G1 s2 .")
            book.redo()
            self.assertEqual(whole(book), behind)
            self.assertEqual(refusal_of(book.redo), "NoMore")

    def test_hundreds_to_the_empty_book_and_back(self):
        for seed in range(4):
            chance = random.Random(seed)
            book, model = Book(), PlainBook()
            told = [whole(book)]
            for many in range(500):
                drawn = drawn_good_deed(chance, model)
                getattr(book, drawn[0])(*drawn[1:])
                model.do(*drawn)
                told.append(whole(model))
                self.assertEqual(whole(book), told[-1], drawn)
            for again in range(2):
                for many in range(500):
                    book.undo()
                    self.assertEqual(whole(book), told[-many - 2])
                self.assertEqual(refusal_of(book.undo), "NoMore")
                for many in range(500):
                    book.redo()
                    self.assertEqual(whole(book), told[many + 1])
                self.assertEqual(refusal_of(book.redo), "NoMore")

    def test_thousands(self):
        book = book_with(a="")
        for many in range(100):
            for at in range(100):
                book.put("a", at, ("s", many))
            for at in range(100):
                book.cut("a", 0)
        for many in range(20000):
            book.undo()
        self.assertEqual(book.line("a"), [])
        for many in range(10050):
            book.redo()
        self.assertEqual(book.line("a"), [("s", 50)] * 50)


class WalkTest(unittest.TestCase):
    def test_deeds_undoings_and_refusals_drawn(self):
        """Held at each turn against a book that keeps the whole of what stood before."""
        seen = set()
        for seed in range(12):
            chance = random.Random(100 + seed)
            book, model = Book(), PlainBook()
            for turn in range(700):
                way = chance.choice((drawn_deed, drawn_good_deed, drawn_good_deed, None))
                drawn = way(chance, model) if way else (chance.choice(("undo", "redo")),)
                due = model.due(*drawn)
                seen.add((drawn[0], due))
                self.assertEqual(refusal_of(getattr(book, drawn[0]), *drawn[1:]), due, drawn)
                if due == "":
                    model.do(*drawn)
                self.assertEqual(whole(book), whole(model), drawn)
        self.assertEqual({deed for deed, due in seen if due == ""},
                         {"add_voice", "add_canon", "drop", "put", "cut", "swap", "undo", "redo"})
        self.assertGreater(len(seen), 25)


if __name__ == "__main__":
    unittest.main()
