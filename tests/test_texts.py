"""How signs and lines are written and read back."""

import itertools
import unittest

from noteworth.errors import BadSign, BadWord
from noteworth.texts import read_line, read_sign, shown_line, shown_sign

SOUNDING = ["G", "D", "s", "d"]
SILENT = ["R", "r", ".", "3", "2"]

# Every sign there is, by the word that writes it.
SIGNS = {kind: (kind, 0) for kind in SILENT}
SIGNS.update({kind + str(tone): (kind, tone) for kind in SOUNDING for tone in range(100)})

PRINTABLE = [chr(code) for code in range(32, 127)]

NOT_GOOD = [
    ("G", -1), ("G", 100), ("D", 100), ("s", -1), ("d", 1000), ("R", 1), ("r", -1), (".", 1),
    ("3", 3), ("2", 2), ("", 0), ("g", 0), ("S", 5), ("GD", 0), ("G5", 0), (" ", 0), ("4", 0),
    ("G", 10 ** 5000), ("d", -10 ** 5000), ("R", 10 ** 5000),
]

BAD_WORDS = [
    "", " ", "g", "g5", "S5", "x", "0", "1", "4", "5", "~", "-", "_",
    "G", "D", "s", "d",
    "R0", "R5", "r0", "r1", ".0", "..", "30", "33", "32", "20", "22", "3 ",
    "G00", "G05", "D01", "s09", "d00", "G000", "G007", "G0100",
    "G100", "D101", "s999", "d100", "G1000",
    "G+5", "G-5", "G-0", "G+", "G-", "G 5", "G5 ", " G5", "G.5", "G5.", "G5a", "Ga", "Gx5",
    "G_5", "G5_", "G1_0", "G_", "-G5", "+G5", "GG5", "GG", "5G", "G5G5", "G5,", "s1s",
    "G" + "9" * 5000, "G" + "0" * 5000, "d1" + "0" * 10000, "s" + "0" * 9999 + "5",
    "R" + "0" * 5000, "9" * 5000,
]


def long_line(length, stride):
    """A line in which the signs come round in an order set by the stride."""
    signs = list(SIGNS.values())
    return [signs[(at * stride) % len(signs)] for at in range(length)]


class ShownSignTest(unittest.TestCase):
    def test_as_the_document_shows(self):
        self.assertEqual(shown_sign(("G", 5)), "G5")
        self.assertEqual(shown_sign(("d", 0)), "d0")
        self.assertEqual(shown_sign(("s", 17)), "s17")
        self.assertEqual(shown_sign(("R", 0)), "R")
        self.assertEqual(shown_sign((".", 0)), ".")
        self.assertEqual(shown_sign(("3", 0)), "3")

    def test_every_sign(self):
        for word, sign in SIGNS.items():
            with self.subTest(word):
                self.assertEqual(shown_sign(sign), word)

    def test_not_good(self):
        for sign in NOT_GOOD:
            with self.assertRaises(BadSign):
                shown_sign(sign)


class ReadSignTest(unittest.TestCase):
    def check_bad(self, word):
        with self.assertRaises(BadWord) as caught:
            read_sign(word)
        self.assertEqual(caught.exception.at, 0)

    def test_every_sign(self):
        for word, sign in SIGNS.items():
            with self.subTest(word):
                self.assertEqual(read_sign(word), sign)
                self.assertIs(type(read_sign(word)), tuple)
                self.assertIs(type(read_sign(word)[1]), int)

    def test_every_sign_that_is_written_comes_back(self):
        for sign in SIGNS.values():
            with self.subTest(sign):
                self.assertEqual(read_sign(shown_sign(sign)), sign)

    def test_bad_words(self):
        for word in BAD_WORDS:
            with self.subTest(word[:20]):
                self.check_bad(word)

    def check_word(self, word):
        if word in SIGNS:
            self.assertEqual(read_sign(word), SIGNS[word])
        else:
            self.check_bad(word)

    def test_every_word_of_two(self):
        for word in PRINTABLE + [one + other for one in PRINTABLE for other in PRINTABLE]:
            self.check_word(word)

    def test_every_sounding_word_of_three(self):
        for letters in itertools.product(SOUNDING, PRINTABLE, PRINTABLE):
            self.check_word("".join(letters))

    def test_every_silent_word_of_three(self):
        for letters in itertools.product(SILENT, "019. +-_GsRr32", "019. +-_GsRr32"):
            self.check_word("".join(letters))


class ShownLineTest(unittest.TestCase):
    def test_empty(self):
        self.assertEqual(shown_line([]), "")

    def test_one_sign(self):
        for word, sign in SIGNS.items():
            self.assertEqual(shown_line([sign]), word)

    def test_every_kind(self):
        line = [
            ("G", 5), ("D", 99), ("R", 0), ("s", 17), ("d", 0), ("r", 0), (".", 0), ("3", 0), ("2", 0),
        ]
        self.assertEqual(shown_line(line), "G5 D99 R s17 d0 r . 3 2")

    def test_long_lines(self):
        words = list(SIGNS)
        for length in (2, 3, 100, 399, 400):
            line = [SIGNS[words[at % len(words)]] for at in range(length)]
            told = " ".join([words[at % len(words)] for at in range(length)])
            self.assertEqual(shown_line(line), told)

    def test_not_good_wherever_it_stands(self):
        for sign in NOT_GOOD:
            for length in (0, 1, 2, 5):
                for at in range(length + 1):
                    line = long_line(length, 7)
                    line.insert(at, sign)
                    with self.assertRaises(BadSign):
                        shown_line(line)

    def test_not_good_in_a_long_line(self):
        for at in (0, 1, 200, 398, 399):
            line = long_line(400, 11)
            line[at] = ("G", 100)
            with self.assertRaises(BadSign):
                shown_line(line)

    def test_the_line_stays_as_it_was(self):
        line = long_line(50, 13)
        before = list(line)
        shown_line(line)
        self.assertEqual(line, before)
        spoilt = line + [("G", 100)]
        with self.assertRaises(BadSign):
            shown_line(spoilt)
        self.assertEqual(spoilt, before + [("G", 100)])

    def test_the_line_is_not_kept(self):
        line = [("G", 5), ("R", 0)]
        self.assertEqual(shown_line(line), "G5 R")
        line.append((".", 0))
        self.assertEqual(shown_line(line), "G5 R .")
        line.clear()
        self.assertEqual(shown_line(line), "")


class ReadLineTest(unittest.TestCase):
    def check_bad(self, text, at):
        with self.subTest(text[:40], at=at):
            with self.assertRaises(BadWord) as caught:
                read_line(text)
            self.assertEqual(caught.exception.at, at)

    def test_empty(self):
        self.assertEqual(read_line(""), [])

    def test_every_kind(self):
        line = read_line("G5 D99 R s17 d0 r . 3 2")
        self.assertEqual(line, [
            ("G", 5), ("D", 99), ("R", 0), ("s", 17), ("d", 0), ("r", 0), (".", 0), ("3", 0), ("2", 0),
        ])
        self.assertIs(type(line), list)
        self.assertEqual({type(sign) for sign in line}, {tuple})

    def test_written_lines_come_back(self):
        for length in (0, 1, 2, 3, 10, 100, 399, 400, 450):
            for stride in (1, 7, 101, 202):
                with self.subTest(length, stride=stride):
                    line = long_line(length, stride)
                    self.assertEqual(read_line(shown_line(line)), line)

    def test_read_once_more_after_a_change(self):
        for text in ("", "G5", "G5 . s3 2 d0"):
            first = read_line(text)
            told = list(first)
            first.append(("R", 0))
            first[0] = ("D", 1)
            self.assertEqual(read_line(text), told)
            first.clear()
            self.assertEqual(read_line(text), told)
            self.assertEqual(shown_line(read_line(text)), text)

    def test_one_bad_word_at_each_place(self):
        # A word with a blank in it is several words of a line, told below by themselves.
        for bad in [word for word in BAD_WORDS if word != "" and " " not in word]:
            for length in (1, 2, 3, 5):
                for at in range(length):
                    words = ["G5", "R", ".", "s17", "2"][:length]
                    words[at] = bad
                    self.check_bad(" ".join(words), at)

    def test_bad_word_in_a_long_text(self):
        for at in (0, 1, 199, 398, 399):
            words = shown_line(long_line(400, 11)).split(" ")
            words[at] = "G100"
            self.check_bad(" ".join(words), at)

    def test_several_bad_words(self):
        self.check_bad("G x y", 0)
        self.check_bad("G5 x y", 1)
        self.check_bad("G5 R R0 G5 G100", 2)
        self.check_bad("G5 R . G05 G5 x", 3)
        self.check_bad("x G5 x", 0)
        self.check_bad("G5 x  G5", 1)
        self.check_bad("G5  x G5", 1)

    def test_empty_words(self):
        self.check_bad(" ", 0)
        self.check_bad("  ", 0)
        self.check_bad(" G5", 0)
        self.check_bad("  G5", 0)
        self.check_bad("G5 ", 1)
        self.check_bad("G5  ", 1)
        self.check_bad("G5  R", 1)
        self.check_bad("G5   R", 1)
        self.check_bad("G5 R ", 2)
        self.check_bad("G5 R  .", 2)
        self.check_bad(" G5 R ", 0)
        self.check_bad("G5 R . s1  ", 4)

    def test_words_parted_by_other_than_one_blank(self):
        self.check_bad("G5,R", 0)
        self.check_bad("R.", 0)
        self.check_bad("G5 Rr", 1)
        self.check_bad("G5 32", 1)
        self.check_bad("s1_s2", 0)

    def test_blank_within_a_word(self):
        self.check_bad("R G 5", 1)
        self.check_bad("R G 3", 1)


if __name__ == "__main__":
    unittest.main()
