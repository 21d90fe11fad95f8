"""Lines heard sign by sign (point 10)."""

import inspect
import unittest

from noteworth.ear import Ear
from noteworth.errors import Closed
from plainly import KINDS, line_of, long_lines, plain_worths, short_lines

# Some two of these give a worth that isn't settled two different worths; the likeliest come first.
GOINGS_ON = sorted(short_lines(3), key=lambda kinds: (len(kinds), kinds.strip("s.G") != "", kinds))


def heard(kinds, begin=3):
    """An ear that has heard a line, and the worths that it told."""
    ear = Ear(begin)
    told = []
    for sign in line_of(kinds):
        told.extend(ear.hear(sign))
    return ear, told


def differs(kinds, begin, at):
    """Tell whether some two goings-on give the sign at a place two different worths."""
    first = plain_worths(kinds, begin)[at]
    return any(plain_worths(kinds + more, begin)[at] != first for more in GOINGS_ON)


class HearTest(unittest.TestCase):
    def check(self, kinds, begin, told, at_close):
        """What is told at each sign, and at the close."""
        with self.subTest(kinds, begin=begin):
            ear = Ear(begin)
            self.assertEqual([ear.hear(sign) for sign in line_of(kinds)], told)
            self.assertEqual(ear.waiting(), len(at_close))
            self.assertEqual(ear.close(), at_close)
            self.assertEqual(ear.waiting(), 0)

    def test_nothing_heard(self):
        self.check("", 3, [], [])
        self.check("", 2, [], [])
        self.assertEqual(Ear().close(), [])

    def test_settled_at_once(self):
        self.check("DR.3s", 3, [[2], [3], [0], [0], [1]], [])
        self.check("DRsdr.2", 2, [[2], [2], [1], [1], [1], [0], [0]], [])
        self.check("2R3R", 3, [[0], [2], [0], [3]], [])
        self.check("rdrdrd", 3, [[1]] * 6, [])

    def test_dots(self):
        self.check("G", 2, [[]], [2])
        self.check("G.", 2, [[], [3, 0]], [])
        self.check("Gs", 2, [[], [2, 1]], [])
        self.check("GG.", 2, [[], [2], [3, 0]], [])
        self.check("G3G", 2, [[], [2, 0], []], [3])
        self.check("G.", 3, [[], [3, 0]], [])

    def test_a_great_note_waits_for_its_run(self):
        self.check("G", 3, [[]], [3])
        self.check("GG", 3, [[], [3]], [3])
        self.check("GD", 3, [[], [3, 2]], [])
        self.check("Gs", 3, [[], []], [2, 1])
        self.check("Gs.", 3, [[], [], [2, 1, 0]], [])
        self.check("Gss", 3, [[], [], []], [3, 1, 1])
        self.check("GssD", 3, [[], [], [], [3, 1, 2, 2]], [])
        self.check("GssG", 3, [[], [], [], [3, 1, 2]], [3])
        self.check("GsssG", 3, [[], [], [], [], [3, 1, 1, 1]], [3])
        self.check("GsG", 3, [[], [], [2, 1]], [3])
        self.check("Gs2", 3, [[], [], [2, 1, 0]], [])

    def test_both_notes_wait_for_what_stands_behind(self):
        self.check("GddG", 3, [[], [], [], []], [2, 1, 1, 2])
        self.check("GddGG", 3, [[], [], [], [], [3, 1, 1, 3]], [3])
        self.check("GddGR", 3, [[], [], [], [], [3, 1, 1, 3, 3]], [])
        self.check("GddG.", 3, [[], [], [], [], [2, 1, 1, 2, 0]], [])
        self.check("GddGs", 3, [[], [], [], [], [2, 1, 1, 2, 1]], [])
        self.check("GddD", 3, [[], [], [], [3, 1, 1, 2]], [])

    def test_a_right_note_waits_for_what_stands_behind(self):
        self.check("sG", 3, [[1], []], [2])
        self.check("sGG", 3, [[1], [], [3]], [3])
        self.check("sGD", 3, [[1], [], [3, 2]], [])
        self.check("sGs", 3, [[1], [], [2, 1]], [])
        self.check("sG3", 3, [[1], [], [2, 0]], [])
        self.check("sGsG", 3, [[1], [], [2, 1], []], [2])
        self.check("sGss", 3, [[1], [], [2, 1], []], [1])

    def test_a_small_note_that_may_be_doubled(self):
        self.check("ss", 3, [[1], []], [1])
        self.check("sss", 3, [[1], [], [1, 1]], [])
        self.check("ssR", 3, [[1], [], [2, 3]], [])
        self.check("ssG", 3, [[1], [], [2]], [3])
        self.check("ss.", 3, [[1], [], [1, 0]], [])
        self.check("ssd", 3, [[1], [], [1, 1]], [])
        self.check("sd", 3, [[1], [1]], [])
        self.check("sssss", 3, [[1], [], [1, 1], [1], []], [1])

    def test_long_runs(self):
        for many in (30, 199, 299, 398):
            ear, told = heard("G" + "s" * many)
            self.assertEqual(told, [])
            self.assertEqual(ear.waiting(), many + 1)
            self.assertEqual(ear.close(), plain_worths("G" + "s" * many, 3))
            ear, told = heard("s" * many)
            self.assertEqual(ear.waiting(), 1 if many % 3 == 2 else 0)
            ear, told = heard("G" + "r" * many + "G")
            self.assertEqual(ear.waiting(), many + 2 if many % 3 == 2 else 1)

    def test_begin_left_out(self):
        ear = Ear()
        self.assertEqual(ear.hear(("R", 0)), [3])
        self.assertEqual(Ear(begin=2).hear(("R", 0)), [2])
        self.assertEqual(Ear(begin=3).hear(("R", 0)), [3])

    def test_kinds(self):
        ear = Ear()
        for sign in line_of("sGs"):
            told = ear.hear(sign)
            self.assertIs(type(told), list)
            self.assertTrue(all([type(worth) is int for worth in told]))
            self.assertIs(type(ear.waiting()), int)
        self.assertIs(type(ear.close()), list)

    def test_arguments(self):
        self.assertEqual(str(inspect.signature(Ear)), "(begin=3)")
        self.assertEqual(str(inspect.signature(Ear.hear)), "(self, sign)")
        self.assertEqual(str(inspect.signature(Ear.close)), "(self)")
        self.assertEqual(str(inspect.signature(Ear.waiting)), "(self)")


class SettledTest(unittest.TestCase):
    def check_line(self, kinds, begin):
        """What is told is always the first part of the worths of the whole line, and all is told at the close."""
        due = plain_worths(kinds, begin)
        ear = Ear(begin)
        told = []
        self.assertEqual(ear.waiting(), 0)
        for many, sign in enumerate(line_of(kinds), start=1):
            told.extend(ear.hear(sign))
            self.assertEqual(told, due[:len(told)], (kinds, begin, many))
            self.assertEqual(ear.waiting(), many - len(told), (kinds, begin, many))
        told.extend(ear.close())
        self.assertEqual(told, due, (kinds, begin))
        self.assertEqual(ear.waiting(), 0)

    def test_short_lines(self):
        for kinds in short_lines(5):
            for begin in (3, 2):
                self.check_line(kinds, begin)

    def test_longer_lines_of_the_threefold_measure(self):
        """All lines of six to eight signs of those kinds on which the most hangs."""
        lines = [""]
        for many in range(8):
            lines = [kinds + kind for kinds in lines for kind in "Gsd."]
            if many >= 5:
                for kinds in lines:
                    self.check_line(kinds, 3)

    def test_long_lines(self):
        for kinds in long_lines(300):
            for begin in (3, 2):
                self.check_line(kinds, begin)

    def check_not_late(self, kinds, begin):
        ear, told = heard(kinds, begin)
        if ear.waiting() > 0:
            self.assertTrue(differs(kinds, begin, len(told)), (kinds, begin, told))

    def test_none_later_than_it_must(self):
        for kinds in short_lines(4):
            for begin in (3, 2):
                self.check_not_late(kinds, begin)

    def test_none_later_than_it_must_behind_more_signs(self):
        for kinds in short_lines(2):
            for ahead in ("Gs", "sG", "GddG", "Gsdr", "ssss", "2G", "2G.3", "GsdsG", "drdrd", "GGss"):
                self.check_not_late(ahead + kinds, 3)
                self.check_not_late(ahead + kinds, 2)

    def test_none_later_than_it_must_in_long_lines(self):
        for kinds in long_lines(60):
            for many in range(0, min(len(kinds), 100), 7):
                self.check_not_late(kinds[:many], 3)
                self.check_not_late(kinds[:many], 2)


class CloseTest(unittest.TestCase):
    def test_behind_a_close(self):
        for begin in (3, 2):
            for kinds in ("", "D", "G", "Gs", "GddG", "ss", "2G"):
                ear, told = heard(kinds, begin)
                told.extend(ear.close())
                self.assertEqual(told, plain_worths(kinds, begin))
                for again in range(3):
                    for sign in line_of(KINDS):
                        with self.assertRaises(Closed):
                            ear.hear(sign)
                    with self.assertRaises(Closed):
                        ear.close()
                    self.assertEqual(ear.waiting(), 0)

    def test_two_ears_at_once(self):
        lines = ("GddG.ssG2G.", "sGsss2GG3Gs")
        ears = [Ear(), Ear(2)]
        told = [[], []]
        for signs in zip(line_of(lines[0]), line_of(lines[1])):
            for at in (0, 1):
                told[at].extend(ears[at].hear(signs[at]))
        told[0].extend(ears[0].close())
        with self.assertRaises(Closed):
            ears[0].hear(("G", 5))
        self.assertGreater(ears[1].waiting(), 0)
        self.assertEqual(ears[1].hear((".", 0)), [2, 1, 0])
        told[1].extend([2, 1, 0])
        self.assertEqual(ears[1].close(), [])
        self.assertEqual(told[0], plain_worths(lines[0], 3))
        self.assertEqual(told[1], plain_worths(lines[1] + ".", 2))

    def test_what_is_told_may_be_changed(self):
        for kinds in ("", "GssGddGG.s2G.Gs3GddGs", "ssGsGdsDGs"):
            ear = Ear()
            told = []
            for sign in line_of(kinds):
                now = ear.hear(sign)
                told.extend(now)
                now.append(9)
                now[0] = 8
                now.reverse()
            last = ear.close()
            self.assertEqual(told + last, plain_worths(kinds, 3))
            last.append(9)
            self.assertEqual(ear.waiting(), 0)

    def test_the_signs_stay(self):
        line = line_of("GddGs2G.")
        before = list(line)
        ear = Ear()
        for sign in line:
            ear.hear(sign)
        self.assertEqual(line, before)


if __name__ == "__main__":
    unittest.main()
