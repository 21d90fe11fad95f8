"""What the document promises over the whole program (point 1 and the interface)."""

import copy
import importlib
import inspect
import pathlib
import random
import unittest

from noteworth import errors
from noteworth.book import Book
from noteworth.desk import Desk
from noteworth.ear import Ear
from noteworth.measures import measures, runs, turned
from noteworth.papers import holds
from noteworth.prices import price
from noteworth.reader import firm, length, loose, wishes_of, worths
from noteworth.score import ending, meetings, rubs, sounding, spans, waits
from noteworth.shelf import read_book, shown_book
from noteworth.signs import good, great, parting, small, sounds
from noteworth.steps import begin_state, ends, states, step
from noteworth.texts import read_line, read_sign, shown_line, shown_sign
from noteworth.writer import written
from plainly import (
    KINDS, PlainBook, REFUSALS, drawn_good_deed, history, line_of, long_lines, plain_reading, refusal_of, short_lines,
    whole,
)

PACKAGE = pathlib.Path(__file__).resolve().parent.parent / "noteworth"

# The interface: each name with its arguments.
INTERFACE = {
    "signs": {"good": "(sign)", "great": "(sign)", "small": "(sign)", "parting": "(sign)", "sounds": "(sign)"},
    "texts": {"shown_sign": "(sign)", "read_sign": "(word)", "shown_line": "(line)", "read_line": "(text)"},
    "measures": {"measures": "(line, begin=3)", "runs": "(line, begin=3)", "turned": "(line)"},
    "reader": {name: "(line, begin=3)" for name in ("worths", "loose", "firm", "length", "wishes_of")},
    "ear": {"Ear": "(begin=3)"},
    "steps": {"states": "()", "begin_state": "(begin=3)", "step": "(state, sign, worth)", "ends": "(state)"},
    "prices": {"price": "(line, prices)"},
    "papers": {"holds": "(wishes, prices, bound, paper, begin=3)"},
    "writer": {"written": "(wishes, prices, begin=3)"},
    "book": {"Book": "()"},
    "score": {"spans": "(book, name)", "ending": "(book, name)", "sounding": "(book, beat)", "meetings": "(book)",
              "rubs": "(book)", "waits": "(book)"},
    "shelf": {"shown_book": "(book)", "read_book": "(text)"},
    "desk": {"Desk": "()"},
}

OF_A_LINE = (
    measures, runs, turned, worths, loose, firm, length, wishes_of, shown_line,
    lambda line, begin=3: price(line, (1, 2, 3)),
)


def heard(line, begin):
    """The worths that an ear tells of a line."""
    ear = Ear(begin)
    told = []
    for sign in line:
        told.extend(ear.hear(sign))
    return told + ear.close()


def comes_to_an_end(line, told, begin):
    """Whether the steps by a line with told worths come to an end."""
    state = begin_state(begin)
    for sign, worth in zip(line, told):
        state = step(state, sign, worth)
        if state is None:
            return False
    return ends(state)


def asked(question, line, begin):
    """What a question tells of a line; not all of them ask for the measure."""
    return question(line) if question in (turned, shown_line) else question(line, begin)


def top_values():
    """The values that stand at the tops of the package's files."""
    found = {}
    for path in sorted(PACKAGE.glob("*.py")):
        module = importlib.import_module("noteworth." + path.stem)
        for name, value in vars(module).items():
            if isinstance(value, (list, tuple, dict, str, int)) and not name.startswith("__"):
                found[path.stem, name] = copy.copy(value)
    return found


class InterfaceTest(unittest.TestCase):
    def test_every_name(self):
        for stem, names in INTERFACE.items():
            module = importlib.import_module("noteworth." + stem)
            for name, arguments in names.items():
                self.assertEqual(str(inspect.signature(getattr(module, name))), arguments, name)
                self.assertEqual(getattr(module, name).__module__, "noteworth." + stem)

    def test_every_refusal(self):
        for name in REFUSALS:
            refusal = getattr(errors, name)
            self.assertTrue(issubclass(refusal, errors.NoteError))
            self.assertEqual([other for other in REFUSALS if issubclass(refusal, getattr(errors, other))], [name])


class LineTest(unittest.TestCase):
    """Two readings of one line, one behind the other, with what was told changed between them."""

    def check(self, line):
        before = list(line)
        first = {(at, begin): asked(question, line, begin) for at, question in enumerate(OF_A_LINE) for begin in (3, 2)}
        due = copy.deepcopy(first)
        for told in first.values():
            if isinstance(told, list):
                told.append(("x", 7))
                told.reverse()
                told.clear()
        for (at, begin), told in due.items():
            self.assertEqual(asked(OF_A_LINE[at], line, begin), told)
        self.assertEqual(line, before)

    def test_short_lines(self):
        for kinds in short_lines(2):
            self.check(line_of(kinds))

    def test_long_lines(self):
        for kinds in long_lines(50):
            self.check(line_of(kinds))

    def test_a_line_changed_between(self):
        """Nothing handed in is kept: a changed line is read as it stands, and as it was when it is changed back."""
        chance = random.Random(3)
        for kinds in long_lines(20):
            line = line_of(kinds)
            before = list(line)
            due = worths(line), loose(line), measures(line)
            for change in range(10):
                at = chance.randrange(len(line))
                line[at] = chance.choice(line_of(KINDS))
                fresh = plain_reading("".join([kind for kind, tone in line]), 3)
                self.assertEqual((worths(line), loose(line)), (fresh[0], fresh[2]))
            line[:] = before
            self.assertEqual((worths(line), loose(line), measures(line)), due)

    def test_four_ways_to_read(self):
        """The reader, the ear, the steps and the book tell the same of long lines."""
        for kinds in long_lines(60):
            line = line_of(kinds)
            book = Book()
            book.add_voice("a")
            book.add_canon("b", "a", 0, 1, True)
            for at, sign in enumerate(line[:200]):
                book.put("a", at, sign)
            self.assertEqual(book.kept("a"), worths(line[:200], 3))
            self.assertEqual(book.kept("b"), worths(turned(line[:200]), 2))
            for begin in (3, 2):
                told = worths(line, begin)
                self.assertEqual(heard(line, begin), told)
                self.assertEqual(comes_to_an_end(line, told, begin), firm(line, begin))
                self.assertEqual(told, plain_reading(kinds, begin)[0])
            self.assertEqual(read_line(shown_line(line)), line)
            self.assertEqual(turned(turned(line)), line)

    def test_signs(self):
        for sign in [(kind, tone) for kind in KINDS for tone in ((0, 50, 99) if kind in "GDsd" else (0,))]:
            self.assertIs(good(sign), True)
            self.assertEqual([great(sign), small(sign), parting(sign)].count(True), 1)
            self.assertIs(sounds(sign), sign[0] in "GDsd")
            self.assertEqual(read_sign(shown_sign(sign)), sign)

    def test_one_line_in_several_ears(self):
        for kinds in ["GddGs.2G.s3GsG"] + list(long_lines(10)):
            line = line_of(kinds)
            ears = [Ear(3), Ear(2), Ear()]
            told = [[], [], []]
            for many, sign in enumerate(line, start=1):
                for at, ear in enumerate(ears):
                    now = ear.hear(sign)
                    told[at].extend(now)
                    now.append(5)
                    self.assertEqual(ear.waiting(), many - len(told[at]))
            for at, ear in enumerate(ears):
                told[at].extend(ear.close())
            self.assertEqual(told, [worths(line, 3), worths(line, 2), worths(line, 3)])


class NothingKeptTest(unittest.TestCase):
    def test_the_tops_of_the_files_stay(self):
        before = top_values()
        states().clear()
        chance = random.Random(9)
        desk, book, model = Desk(), Book(), PlainBook()
        for turn in range(60):
            drawn = drawn_good_deed(chance, model)
            getattr(book, drawn[0])(*drawn[1:])
            model.do(*drawn)
        for command in ("add a", "put a 0 G5", "put a 0 x", "follow b a 0 1 turned", "line b", "no", "undo", "redo"):
            desk.told(command)
        for told in (meetings(book), rubs(book), waits(book), sounding(book, 3)):
            told.clear()
        for name in book.names():
            spans(book, name).clear()
        line, cost, paper = written([(5, 2), (6, 1), (-1, 1)], (1, 2, 3))
        self.assertTrue(holds([(5, 2), (6, 1), (-1, 1)], (1, 2, 3), cost, paper))
        line.clear()
        paper.clear()
        self.assertEqual(top_values(), before)
        self.assertEqual(len(states()), 28)

    def test_what_was_handed_in_is_changed_behind_it(self):
        wishes, prices = [(5, 3), (6, 2), (7, 1)], (1, 2, 3)
        line, cost, paper = written(wishes, prices)
        due = (list(line), cost, copy.deepcopy(paper))
        wishes[1] = (6, 9)
        wishes.append((1, 1))
        self.assertEqual((line, cost, paper), due)
        self.assertEqual(written([(5, 3), (6, 2), (7, 1)], prices), due)
        self.assertEqual(written(wishes, prices)[:2], (None, None))
        given = copy.deepcopy(paper)
        self.assertTrue(holds([(5, 3), (6, 2), (7, 1)], prices, cost, given))
        given[1].append(("x", 1))
        self.assertFalse(holds([(5, 3), (6, 2), (7, 1)], prices, cost, given))
        self.assertTrue(holds([(5, 3), (6, 2), (7, 1)], prices, cost, paper))

    def test_a_book_goes_its_way_whatever_is_asked_between(self):
        """Two books with the same deeds tell the same, though one is asked everything between and changed answers."""
        for seed in range(6):
            chance = random.Random(seed)
            one, other, model = Book(), Book(), PlainBook()
            for turn in range(80):
                drawn = drawn_good_deed(chance, model)
                windows = [getattr(book, drawn[0])(*drawn[1:]) for book in (one, other)]
                self.assertEqual(windows[0], windows[1])
                model.do(*drawn)
                for name in one.names():
                    for told in (one.line(name), one.kept(name), spans(one, name), one.names()):
                        told.clear()
                    ending(one, name)
                for told in (meetings(one), rubs(one), waits(one), sounding(one, turn)):
                    told.append(None)
                read_book(shown_book(one)).add_voice("another")
            self.assertEqual(whole(one), whole(other))
            self.assertEqual(history(one), history(other))
            self.assertEqual(history(one)[0], 80)

    def test_books_made_by_others_are_apart(self):
        desk = Desk()
        desk.told("add a")
        desk.told("put a 0 G5")
        book = read_book(shown_book(desk.book))
        book.put("a", 0, ("R", 0))
        self.assertEqual(desk.told("line a"), "ok G5")
        desk.told("undo")
        self.assertEqual(shown_book(book), "voice a R G5")
        self.assertEqual(refusal_of(Book().undo), "NoMore")


if __name__ == "__main__":
    unittest.main()
