"""The desk's commands and answers (point 25)."""

import inspect
import random
import unittest

from noteworth.book import Book
from noteworth.desk import Desk
from noteworth.texts import shown_sign
from plainly import PlainBook, drawn_deed, drawn_good_deed, history, kinds_of, plain_window, whole

# A command of each form, all of them answered by `ok` one behind the other.
COMMANDS = (
    "add a", "add b", "follow c a 5 2 turned", "follow d a 0 1 straight", "put a 0 G5", "put a 1 s6", "swap a 0 D7",
    "cut a 1", "drop d", "undo", "redo", "line a", "worths a",
)
WORDS_OF = {"add_voice": "add", "add_canon": "follow"}


def told_desk(*commands):
    """A desk that was told commands, none of which it refuses."""
    desk = Desk()
    for command in commands:
        answer = desk.told(command)
        assert answer.startswith("ok"), (command, answer)
    return desk


def command_of(drawn):
    """The command that tells a deed."""
    words = [WORDS_OF.get(drawn[0], drawn[0])]
    for thing in drawn[1:]:
        if isinstance(thing, bool):
            words.append("turned" if thing else "straight")
        elif isinstance(thing, tuple):
            words.append("".join([thing[0], str(thing[1]) if thing[0] in tuple("GDsd") else ""]))
        else:
            words.append(str(thing))
    return " ".join(words)


class AnswersTest(unittest.TestCase):
    def check(self, desk, *turns):
        for command, answer in turns:
            self.assertEqual(desk.told(command), answer, command)

    def test_each_command(self):
        self.check(
            Desk(),
            ("add a", "ok"), ("line a", "ok"), ("worths a", "ok"),
            ("put a 0 G5", "ok 0 1"), ("put a 1 s6", "ok 0 2"), ("put a 2 2", "ok 0 3"), ("put a 3 .", "ok 0 4"),
            ("line a", "ok G5 s6 2 ."), ("worths a", "ok 2 1 0 0"),
            ("follow b a 10 3 straight", "ok"), ("follow c a 0 2 turned", "ok"),
            ("line b", "ok G5 s6 2 ."), ("worths b", "ok 6 3 0 0"),
            ("line c", "ok G5 s6 3 ."), ("worths c", "ok 4 2 0 0"),
            ("swap a 1 R", "ok 0 2"), ("line a", "ok G5 R 2 ."), ("worths a", "ok 3 3 0 0"),
            ("cut a 0", "ok 0 1"), ("worths c", "ok 4 0 0"),
            ("undo", "ok"), ("undo", "ok"), ("line a", "ok G5 s6 2 ."),
            ("redo", "ok"), ("line a", "ok G5 R 2 ."), ("redo", "ok"), ("redo", "no NoMore"),
            ("drop b", "ok"), ("line b", "no NoVoice"), ("undo", "ok"), ("line b", "ok R 2 ."),
        )

    def test_windows(self):
        desk = told_desk("add a", "put a 0 G1", "put a 1 d2", "put a 2 d3", "put a 3 G4", "put a 4 .", "put a 5 s6")
        self.check(desk, ("put a 4 R", "ok 0 5"), ("cut a 4", "ok 0 4"), ("swap a 4 2", "ok 0 6"),
                   ("put a 6 s7", "ok 3 7"), ("swap a 5 .", "ok 3 7"))

    def test_an_empty_voice_and_its_canon(self):
        desk = told_desk("add a", "follow b a 5 5 turned", "add c", "put c 0 2")
        self.check(desk, ("line a", "ok"), ("worths a", "ok"), ("line b", "ok"), ("worths b", "ok"),
                   ("line c", "ok 2"), ("worths c", "ok 0"))

    def test_what_the_book_refuses(self):
        desk = told_desk("add a", "follow b a 0 1 straight")
        self.check(
            desk,
            ("redo", "no NoMore"), ("add A", "no BadName"), ("add ninelette", "no BadName"), ("add a", "no NameTaken"),
            ("follow 1 a 0 1 straight", "no BadName"), ("follow a a 0 1 straight", "no NameTaken"),
            ("follow c x 0 1 straight", "no NoVoice"), ("follow c b 0 1 straight", "no NotPlain"),
            ("follow c a 1000 1 straight", "no BadTerm"), ("follow c a 9999 1 turned", "no BadTerm"),
            ("follow c a 0 0 straight", "no BadTerm"), ("follow c a 0 10 straight", "no BadTerm"),
            ("drop x", "no NoVoice"), ("drop a", "no Leaned"),
            ("put x 0 G5", "no NoVoice"), ("put b 0 G5", "no NotPlain"), ("put a 1 G5", "no NoPlace"),
            ("put a 9999 G5", "no NoPlace"), ("cut x 0", "no NoVoice"), ("cut b 0", "no NotPlain"),
            ("cut a 0", "no NoPlace"), ("swap x 0 G5", "no NoVoice"), ("swap b 0 G5", "no NotPlain"),
            ("swap a 0 G5", "no NoPlace"), ("line x", "no NoVoice"), ("worths x", "no NoVoice"),
            ("line ABC!", "no NoVoice"), ("worths 12345", "no NoVoice"), ("drop 012", "no NoVoice"),
        )
        self.check(desk, ("undo", "ok"), ("undo", "ok"), ("undo", "no NoMore"), ("undo", "no NoMore"))

    def test_full(self):
        desk = told_desk(*["add " + name for name in "abcdefghijkl"])
        self.check(desk, ("add m", "no Full"), ("follow m a 0 1 straight", "no Full"))
        for at in range(200):
            self.assertEqual(desk.told(f"put a {at} s5"), f"ok 0 {at + 1}")
        self.check(desk, ("put a 0 s5", "no Full"), ("put a 200 s5", "no Full"), ("put a 201 s5", "no NoPlace"))

    def test_every_sign_s_word(self):
        desk = told_desk("add a")
        for kind in "GDsdRr.32":
            for tone in (0, 1, 9, 10, 99) if kind in "GDsd" else (0,):
                word = shown_sign((kind, tone))
                self.check(desk, (f"put a 0 {word}", "ok 0 1"), ("line a", f"ok {word}"),
                           (f"swap a 0 {word}", "ok 0 1"), ("cut a 0", "ok 0 0"))

    def test_interface(self):
        self.assertEqual(str(inspect.signature(Desk)), "()")
        self.assertEqual(str(inspect.signature(Desk().told)), "(command)")
        self.assertIsInstance(Desk().book, Book)
        self.assertEqual(Desk().told(command="add a"), "ok")


class BadRowTest(unittest.TestCase):
    def setUp(self):
        self.desk = told_desk("add a", "put a 0 G5", "put a 1 s6", "undo")
        self.before = history(self.desk.book)

    def check(self, *commands):
        for command in commands:
            self.assertEqual(self.desk.told(command), "no BadRow", command)
        self.assertEqual(history(self.desk.book), self.before)

    def test_no_commands(self):
        self.check("", " ", "  ", "x", "Add a", "ADD a", "addx a", "voice a", "put", "names", "ok", "kept a", "canon a",
                   "add_voice b", "help", "no", "3", "__init__ a", "told add b")

    def test_a_word_too_few_and_too_many(self):
        for command in COMMANDS:
            words = command.split(" ")
            self.check(command + " x", command + " 1", command + " a", command + " G5", command + " " + command)
            if len(words) > 1:
                self.check(" ".join(words[:-1]), words[0], " ".join(words[1:]))
                for at in range(1, len(words)):
                    self.check(" ".join(words[:at] + words[at + 1:]))

    def test_blanks(self):
        for command in COMMANDS:
            words = command.split(" ")
            self.check(" " + command, command + " ", "  " + command, command + "  ")
            for at in range(1, len(words)):
                self.check(" ".join(words[:at]) + "  " + " ".join(words[at:]))
                self.check(" ".join(words[:at] + [""] + words[at + 1:]))
        self.check("add ", "put a 0 ", "line ", " add", "undo ", " undo",
                   "follow  a 0 1 straight", "follow c  0 1 turned")

    def test_numbers(self):
        for number in ("00", "01", "007", "0000", "0001", "10000", "12345", "99999", "-1", "+1", "1_0", "1.", "one",
                       "0x1", "1a", "G5", "1" * 5000, "0" * 5000):
            self.check(f"put a {number} G5", f"cut a {number}", f"swap a {number} G5",
                       f"follow b a {number} 1 straight", f"follow b a 0 {number} straight")

    def test_numbers_of_one_to_four_figures(self):
        for number in ("2", "9", "10", "99", "100", "999", "1000", "9999"):
            for command in (f"put a {number} G5", f"cut a {number}", f"swap a {number} G5"):
                self.assertEqual(self.desk.told(command), "no NoPlace", command)
        for number in ("10", "99", "100", "999", "1000", "9999"):
            self.assertEqual(self.desk.told(f"follow b a 0 {number} straight"), "no BadTerm")
        for number in ("1000", "1001", "9999"):
            self.assertEqual(self.desk.told(f"follow b a {number} 1 straight"), "no BadTerm")
        for at, number in enumerate(("0", "9", "10", "99", "100", "999")):
            name = "bcdefg"[at]
            self.assertEqual(self.desk.told(f"follow {name} a {number} 1 straight"), "ok")
            self.assertEqual(self.desk.book.canon(name), ("a", int(number), 1, False))

    def test_ways(self):
        for way in ("Straight", "turn", "True", "0", "straightturned", "G5", "a"):
            self.check(f"follow b a 0 1 {way}")
        for name, way in (("b", "straight"), ("c", "turned")):
            self.assertEqual(self.desk.told(f"follow {name} a 0 1 {way}"), "ok")
            self.assertIs(self.desk.book.canon(name)[3], way == "turned")


class OrderTest(unittest.TestCase):
    """`no BadRow` ahead of `no BadWord` ahead of what the book refuses."""

    def test_order(self):
        desk = told_desk("add a", "follow b a 0 1 straight", "put a 0 G5")
        for word in ("put", "swap"):
            for name in ("a", "b", "x", "A1"):
                for sign in ("G", "x", "G100", "R0", "g5", "-", "straight", "a"):
                    self.assertEqual(desk.told(f"{word} {name} 0 {sign}"), "no BadWord")
                    self.assertEqual(desk.told(f"{word} {name} 999 {sign}"), "no BadWord")
                    self.assertEqual(desk.told(f"{word} {name} 00 {sign}"), "no BadRow")
                    self.assertEqual(desk.told(f"{word} {name} 10000 {sign}"), "no BadRow")
                    self.assertEqual(desk.told(f"{word} {name} 0 {sign} {sign}"), "no BadRow")
        self.assertEqual(desk.told("put x 99 G5"), "no NoVoice")
        self.assertEqual(desk.told("swap b 99 G5"), "no NotPlain")
        self.assertEqual(desk.told("follow A x 9999 0 round"), "no BadRow")
        self.assertEqual(desk.told("follow A x 9999 0 turned"), "no BadName")
        self.assertEqual(desk.told("follow a x 9999 0 turned"), "no NameTaken")
        self.assertEqual(desk.told("follow c x 9999 0 turned"), "no NoVoice")
        self.assertEqual(desk.told("follow c b 9999 0 turned"), "no NotPlain")
        self.assertEqual(desk.told("line a"), "ok G5")


class TwoDoorsTest(unittest.TestCase):
    def test_a_deed_by_either_door(self):
        desk = Desk()
        book = desk.book
        self.assertEqual(book.names(), [])
        desk.told("add a")
        self.assertEqual(book.names(), ["a"])
        self.assertEqual(book.put("a", 0, ("G", 5)), (0, 1))
        self.assertEqual(desk.told("line a"), "ok G5")
        self.assertEqual(desk.told("undo"), "ok")
        self.assertEqual(book.line("a"), [])
        book.redo()
        self.assertEqual(desk.told("worths a"), "ok 3")
        book.undo()
        self.assertEqual(desk.told("redo"), "ok")
        self.assertEqual(desk.told("redo"), "no NoMore")
        self.assertIs(desk.book, book)

    def test_two_desks_do_not_touch(self):
        one, other = Desk(), Desk()
        one.told("add a")
        one.told("put a 0 G5")
        self.assertEqual(other.told("line a"), "no NoVoice")
        self.assertEqual(other.told("undo"), "no NoMore")
        other.told("add a")
        one.told("undo")
        self.assertEqual(other.told("redo"), "no NoMore")
        self.assertEqual(one.told("redo"), "ok")
        self.assertEqual((one.told("line a"), other.told("line a")), ("ok G5", "ok"))

    def test_questions_and_refusals_leave_the_book(self):
        desk = told_desk(*COMMANDS)
        desk.told("undo")
        before = history(desk.book)
        for command in ("line a", "worths a", "line c", "worths c", "add a", "put a 0 x", "put a 77 G5", "nothing", "",
                        "drop a", "follow e a 1000 1 turned"):
            desk.told(command)
            self.assertEqual(history(desk.book), before, command)

    def test_drawn(self):
        """Deeds by commands, held against the model of a book."""
        for seed in range(8):
            chance = random.Random(seed)
            desk, model = Desk(), PlainBook()
            for turn in range(300):
                way = chance.choice((drawn_deed, drawn_good_deed, drawn_good_deed, None))
                drawn = way(chance, model) if way else (chance.choice(("undo", "redo")),)
                self.check(desk, model, drawn)
            for name in model.names():
                line = " ".join(["ok"] + [command_of(("", sign))[1:] for sign in model.line(name)])
                self.assertEqual(desk.told("line " + name), line)
                kept = " ".join(["ok"] + [str(worth) for worth in model.kept(name)])
                self.assertEqual(desk.told("worths " + name), kept)

    def check(self, desk, model, drawn):
        command = command_of(drawn)
        due = model.due(*drawn)
        if -1 in drawn or "" in drawn or "a b" in drawn:
            due = "BadRow"
        elif drawn[0] in ("put", "swap") and drawn[3] in (("G", 100), ("x", 0)):
            due = "BadWord"
        elif drawn[-1] == ("R", 1):
            return
        before = model.line(drawn[1]) if drawn[0] in ("cut", "swap") and not due else []
        if due == "":
            model.do(*drawn)
        answer = "ok" if due == "" else "no " + due
        if due == "" and drawn[0] in ("put", "cut", "swap"):
            changed = kinds_of(before[drawn[2]:drawn[2] + 1] + list(drawn[3:]))
            low, high = plain_window(drawn[0], drawn[2], kinds_of(model.line(drawn[1])), changed)
            answer = f"ok {low} {high}"
        self.assertEqual(desk.told(command), answer, command)
        self.assertEqual(whole(desk.book), whole(model), command)


if __name__ == "__main__":
    unittest.main()
