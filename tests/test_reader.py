"""Lines read as a whole (points 6 to 9)."""

import inspect
import unittest

from noteworth.measures import runs
from noteworth.reader import firm, length, loose, wishes_of, worths
from plainly import KINDS, line_of, long_lines, plain_reading, short_lines

# What may stand ahead of a run: kinds, their worths where the run changes nothing, whether the last is a left note.
LEFTS = [
    ("", [], False), ("G", [3], True), ("D", [2], False), ("R", [3], False),
    (".", [0], False), ("3", [0], False), ("23", [0, 0], False),
    ("G.", [3, 0], False), ("G3", [3, 0], False), ("GG", [3, 3], True), ("DG", [2, 3], True),
    # A `G` that was shortened already as the right note of the run before.
    ("sG", [1, 2], False), ("rssdG", [1, 1, 1, 1, 2], False), ("GddG", [2, 1, 1, 2], False),
    # One that the run before left alone.
    ("GsG", [2, 1, 3], True), ("dsG", [1, 2, 3], True), ("sdrG", [1, 1, 1, 3], True),
]

# What may stand behind it: kinds, their worths where the run changes nothing, whether the first is a right note.
RIGHTS = [
    ("", [], False), ("D", [2], False), ("R", [3], False), (".", [0], False), ("3", [0], False), ("2", [0], False),
    ("G", [3], True), ("G.", [3, 0], True), ("G3", [3, 0], True), ("G2", [3, 0], True),
    ("Gsss", [3, 1, 1, 1], True), ("Gddd", [3, 1, 1, 1], True), ("Grrr", [3, 1, 1, 1], True),
    ("GG", [3, 3], False), ("GD", [3, 2], False), ("GR", [3, 3], False),
    (".G", [0, 3], False), ("3G", [0, 3], False), ("2G", [0, 2], False), ("2G.", [0, 3, 0], False),
    ("DG", [2, 3], False),
]

RUN_LENGTHS = list(range(1, 10)) + [100, 200, 201, 300, 301, 302, 380]


def changed(ahead, run, behind):
    """The worths and whether the run is loose, by point 8, for a run between two of the neighbours above."""
    before, between, after = list(ahead[1]), [1] * len(run), list(behind[1])
    has_left, has_right = ahead[2], behind[2]
    is_loose = False
    if len(run) % 3 == 1:
        if has_left:
            before[-1] = 2
        elif has_right:
            after[0] = 2
        else:
            is_loose = True
    if len(run) % 3 == 2:
        if behind[0][:1] in ("G", "D", "R") and run[-1] == "s":
            between[-1] = 2
        elif has_left and has_right:
            before[-1] = after[0] = 2
        else:
            is_loose = True
    return before + between + after, is_loose


class WorthsTest(unittest.TestCase):
    def check(self, kinds, begin, told, loose_runs=()):
        with self.subTest(kinds, begin=begin):
            line = line_of(kinds)
            self.assertEqual(worths(line, begin), told)
            self.assertEqual(loose(line, begin), list(loose_runs))
            self.assertIs(firm(line, begin), not loose_runs)
            self.assertEqual(length(line, begin), sum(told))

    def test_empty(self):
        self.check("", 3, [])
        self.check("", 2, [])

    def test_every_kind(self):
        for kind, threefold, twofold in zip(KINDS, (3, 2, 3, 1, 1, 1, 0, 0, 0), (2, 2, 2, 1, 1, 1, 0, 0, 0)):
            self.check(kind, 3, [threefold], [(0, 1)] if kind in "sdr" else [])
            self.check(kind, 2, [twofold])
        self.check("GDRsdr.32", 3, [3, 2, 3, 1, 1, 1, 0, 0, 0])
        self.check("GDRsdr.32", 2, [2, 2, 2, 1, 1, 1, 0, 0, 0])

    def test_begin_left_out(self):
        line = line_of("GRs2GR")
        self.assertEqual(worths(line), [3, 3, 1, 0, 2, 2])
        self.assertEqual(loose(line), [(2, 3)])
        self.assertIs(firm(line), False)
        self.assertEqual(length(line), 11)
        self.assertEqual(wishes_of(line), [(0, 3), (-1, 3), (2, 1), (4, 2), (-1, 2)])
        self.assertEqual(worths(line, begin=2), [2, 2, 1, 0, 2, 2])
        self.assertIs(firm(line, begin=2), True)

    def test_dots_in_the_twofold_measure(self):
        self.check("G.", 2, [3, 0])
        self.check("G..", 2, [3, 0, 0])
        self.check("G.G", 2, [3, 0, 2])
        self.check("GG.", 2, [2, 3, 0])
        self.check("G.G.", 2, [3, 0, 3, 0])
        self.check("D.", 2, [2, 0])
        self.check("R.", 2, [2, 0])
        for kind in "sdr":
            self.check(kind + ".", 2, [1, 0])
            self.check("G" + kind + ".", 2, [2, 1, 0])
        self.check("2.", 2, [0, 0])
        self.check("2.", 3, [0, 0])
        self.check("G2.", 2, [2, 0, 0])
        self.check("G3.", 2, [2, 0, 0])
        self.check("G2.", 3, [3, 0, 0])
        self.check("2G.", 3, [0, 3, 0])
        self.check(".", 2, [0])
        self.check(".G", 2, [0, 2])
        self.check("..G.", 2, [0, 0, 3, 0])

    def test_dots_in_the_threefold_measure(self):
        self.check("G.", 3, [3, 0])
        self.check("Gs.", 3, [2, 1, 0])
        self.check("G.s", 3, [3, 0, 1], [(2, 3)])
        self.check("s.G", 3, [1, 0, 3], [(0, 1)])
        self.check("3G.", 2, [0, 3, 0])
        self.check("G.2G.3G.", 3, [3, 0, 0, 3, 0, 0, 3, 0])

    def test_no_runs_in_the_twofold_measure(self):
        self.check("GsGddGssDrR", 2, [2, 1, 2, 1, 1, 2, 1, 1, 2, 1, 2])
        self.check("2sG3", 3, [0, 1, 2, 0])
        self.check("2ssR3", 3, [0, 1, 1, 2, 0])

    def test_rest_0(self):
        self.check("GsssG", 3, [3, 1, 1, 1, 3])
        self.check("Gdrs", 3, [3, 1, 1, 1])
        self.check("sssssD", 3, [1, 1, 1, 1, 2, 2])
        self.check("ssssssD", 3, [1, 1, 1, 1, 1, 1, 2])

    def test_rest_1(self):
        self.check("Gs", 3, [2, 1])
        self.check("GsG", 3, [2, 1, 3])
        self.check("sG", 3, [1, 2])
        self.check("sGG", 3, [1, 3, 3], [(0, 1)])
        self.check("sGD", 3, [1, 3, 2], [(0, 1)])
        self.check("sGR", 3, [1, 3, 3], [(0, 1)])
        self.check("sG.G", 3, [1, 2, 0, 3])
        self.check("sD", 3, [1, 2], [(0, 1)])
        self.check("Rs", 3, [3, 1], [(1, 2)])
        self.check("GGs", 3, [3, 2, 1])
        self.check("GDs", 3, [3, 2, 1], [(2, 3)])

    def test_rest_2(self):
        self.check("ssG", 3, [1, 2, 3])
        self.check("ssD", 3, [1, 2, 2])
        self.check("ssR", 3, [1, 2, 3])
        self.check("ssGG", 3, [1, 2, 3, 3])
        self.check("ss", 3, [1, 1], [(0, 2)])
        self.check("ss.", 3, [1, 1, 0], [(0, 2)])
        self.check("Gss", 3, [3, 1, 1], [(1, 3)])
        self.check("GssG", 3, [3, 1, 2, 3])
        self.check("GddG", 3, [2, 1, 1, 2])
        self.check("GsrG", 3, [2, 1, 1, 2])
        self.check("GdsG", 3, [3, 1, 2, 3])
        self.check("GddGG", 3, [3, 1, 1, 3, 3], [(1, 3)])
        self.check("GddGD", 3, [3, 1, 1, 3, 2], [(1, 3)])
        self.check("GddD", 3, [3, 1, 1, 2], [(1, 3)])
        self.check("Gdd", 3, [3, 1, 1], [(1, 3)])
        self.check("ddG", 3, [1, 1, 3], [(0, 2)])
        self.check("DddG", 3, [2, 1, 1, 3], [(1, 3)])

    def test_runs_one_behind_the_other(self):
        self.check("sGs", 3, [1, 2, 1], [(2, 3)])
        self.check("GsGs", 3, [2, 1, 2, 1])
        self.check("sGsG", 3, [1, 2, 1, 2])
        self.check("sGddG", 3, [1, 2, 1, 1, 3], [(2, 4)])
        self.check("sGssG", 3, [1, 2, 1, 2, 3])
        self.check("GddGs", 3, [2, 1, 1, 2, 1], [(4, 5)])
        self.check("GddGsG", 3, [2, 1, 1, 2, 1, 2])
        self.check("GddGddG", 3, [2, 1, 1, 2, 1, 1, 3], [(4, 6)])
        self.check("ddGddG", 3, [1, 1, 2, 1, 1, 2], [(0, 2)])
        self.check("ssGddG", 3, [1, 2, 2, 1, 1, 2])
        self.check("sGGs", 3, [1, 3, 2, 1], [(0, 1)])
        self.check("s.s3s", 3, [1, 0, 1, 0, 1], [(0, 1), (2, 3), (4, 5)])

    def test_measure_signs_stand_between(self):
        self.check("G3s", 3, [3, 0, 1], [(2, 3)])
        self.check("s3G", 3, [1, 0, 3], [(0, 1)])
        self.check("G2s", 3, [3, 0, 1])
        self.check("G3s", 2, [2, 0, 1], [(2, 3)])
        self.check("ss2G", 3, [1, 1, 0, 2], [(0, 2)])
        self.check("sG2G", 3, [1, 2, 0, 2])
        self.check("2G3sG.", 3, [0, 2, 0, 1, 2, 0])

    def test_each_run_between_each_two_neighbours(self):
        for many in RUN_LENGTHS:
            for last in "sdr":
                run = ("srd" * many)[:many - 1] + last
                for ahead in LEFTS:
                    for behind in RIGHTS:
                        line = line_of(ahead[0] + run + behind[0])
                        told, is_loose = changed(ahead, run, behind)
                        place = (len(ahead[0]), len(ahead[0]) + many)
                        self.assertEqual(worths(line), told, (ahead[0], run, behind[0]))
                        self.assertEqual(loose(line), [place] if is_loose else [], (ahead[0], run, behind[0]))
                        self.assertIs(firm(line), not is_loose)

    def check_plainly(self, kinds):
        for begin in (3, 2):
            line = line_of(kinds)
            told, all_runs, loose_runs = plain_reading(kinds, begin)
            self.assertEqual(worths(line, begin), told, (kinds, begin))
            self.assertEqual(loose(line, begin), loose_runs, (kinds, begin))
            self.assertIs(firm(line, begin), loose_runs == [], (kinds, begin))
            self.assertEqual(length(line, begin), sum(told), (kinds, begin))
            self.assertTrue(set(loose(line, begin)) <= set(runs(line, begin)), (kinds, begin))

    def test_short_lines(self):
        for kinds in short_lines(5):
            self.check_plainly(kinds)

    def test_long_lines(self):
        for kinds in long_lines(300):
            self.check_plainly(kinds)

    def test_tones_change_no_worth(self):
        for kinds in ("GsGddGG.", "2G.GsD3dsR"):
            for tone in (0, 1, 2, 3, 50, 99):
                line = [(kind, tone if kind in "GDsd" else 0) for kind in kinds]
                self.assertEqual(worths(line), worths(line_of(kinds)))

    def test_kinds_of_what_is_told(self):
        line = line_of("GsG2G.s3s")
        self.assertIs(type(worths(line)), list)
        self.assertEqual({type(worth) for worth in worths(line)}, {int})
        self.assertIs(type(loose(line)), list)
        self.assertEqual({type(run) for run in loose(line)}, {tuple})
        self.assertIs(type(length(line)), int)
        self.assertIs(type(length([])), int)

    def test_asked_again_behind_a_change(self):
        line = line_of("sGs")
        before = list(line)
        for asked in (worths, loose, wishes_of):
            for begin in (3, 2):
                told = asked(line, begin)
                due = list(told)
                told.append(7)
                told[0] = 9
                self.assertEqual(asked(line, begin), due)
                told.clear()
                self.assertEqual(asked(line, begin), due)
        self.assertEqual((length(line), firm(line)), (4, False))
        self.assertEqual(line, before)

    def test_the_line_is_not_kept(self):
        line = line_of("Gs")
        self.assertEqual(worths(line), [2, 1])
        line.append(("s", 1))
        self.assertEqual(worths(line), [3, 1, 1])
        self.assertEqual(loose(line), [(1, 3)])
        self.assertEqual(length(line), 5)

    def test_arguments(self):
        for asked in (worths, loose, firm, length, wishes_of):
            self.assertEqual(str(inspect.signature(asked)), "(line, begin=3)")


class WishesTest(unittest.TestCase):
    def test_empty(self):
        self.assertEqual(wishes_of([]), [])
        self.assertEqual(wishes_of([], 2), [])

    def test_every_kind(self):
        line = [("G", 5), ("D", 99), ("R", 0), ("s", 0), ("d", 1), ("r", 0), (".", 0), ("3", 0), ("2", 0)]
        self.assertEqual(wishes_of(line, 3), [(5, 3), (99, 2), (-1, 3), (0, 1), (1, 1), (-1, 1)])
        self.assertEqual(wishes_of(line, 2), [(5, 2), (99, 2), (-1, 2), (0, 1), (1, 1), (-1, 1)])

    def test_parting_signs_alone(self):
        self.assertEqual(wishes_of(line_of("..32.")), [])

    def test_changed_worths(self):
        line = [("G", 7), ("d", 8), ("r", 0), ("G", 9), (".", 0), ("s", 0), ("s", 3), ("R", 0)]
        self.assertEqual(wishes_of(line), [(7, 2), (8, 1), (-1, 1), (9, 2), (0, 1), (3, 2), (-1, 3)])
        self.assertEqual(wishes_of([("G", 4), (".", 0)], 2), [(4, 3)])

    def test_short_and_long_lines(self):
        for kinds in list(short_lines(4)) + list(long_lines(100)):
            for begin in (3, 2):
                line = line_of(kinds)
                due = []
                for (kind, tone), worth in zip(line, plain_reading(kinds, begin)[0]):
                    if kind in "Rr":
                        due.append((-1, worth))
                    elif kind in "GDsd":
                        due.append((tone, worth))
                self.assertEqual(wishes_of(line, begin), due, (kinds, begin))

    def test_kinds_of_what_is_told(self):
        told = wishes_of(line_of("GRs"))
        self.assertIs(type(told), list)
        self.assertEqual({type(wish) for wish in told}, {tuple})


if __name__ == "__main__":
    unittest.main()
