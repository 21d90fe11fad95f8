"""Measures, runs, and lines turned (points 4, 5 and 16)."""

import inspect
import unittest

from noteworth.measures import measures, runs, turned
from plainly import KINDS, kinds_of, line_of, long_lines, plain_reading, short_lines, stretches


class MeasuresTest(unittest.TestCase):
    def check(self, kinds, begin, told):
        with self.subTest(kinds, begin=begin):
            self.assertEqual(measures(line_of(kinds), begin), told)

    def test_empty(self):
        self.check("", 3, [])
        self.check("", 2, [])
        self.assertEqual(measures([]), [])

    def test_without_measure_signs(self):
        self.check("GDRsdr.", 3, [3] * 7)
        self.check("GDRsdr.", 2, [2] * 7)

    def test_begin_left_out(self):
        self.assertEqual(measures(line_of("Gs2s3")), [3, 3, 2, 2, 3])
        self.assertEqual(measures(line_of("G")), [3])
        self.assertEqual(measures(line_of("G"), begin=2), [2])

    def test_at_the_first_place(self):
        self.check("2Gs", 3, [2, 2, 2])
        self.check("2Gs", 2, [2, 2, 2])
        self.check("3Gs", 3, [3, 3, 3])
        self.check("3Gs", 2, [3, 3, 3])

    def test_at_a_middle_place(self):
        self.check("Gs2rD", 3, [3, 3, 2, 2, 2])
        self.check("Gs3rD", 2, [2, 2, 3, 3, 3])
        self.check("Gs3rD", 3, [3, 3, 3, 3, 3])
        self.check("s2s3s2s", 3, [3, 2, 2, 3, 3, 2, 2])

    def test_at_the_last_place(self):
        self.check("Gs2", 3, [3, 3, 2])
        self.check("Gs3", 2, [2, 2, 3])

    def test_side_by_side(self):
        self.check("G23s", 3, [3, 2, 3, 3])
        self.check("G32s", 3, [3, 3, 2, 2])
        self.check("2233232", 3, [2, 2, 3, 3, 2, 3, 2])
        self.check("33", 2, [3, 3])

    def test_tones_are_no_measure(self):
        self.assertEqual(measures([("G", 2), ("s", 2), ("d", 2), ("D", 2)], 3), [3, 3, 3, 3])
        self.assertEqual(measures([("G", 3), ("s", 3), ("d", 3), ("D", 3)], 2), [2, 2, 2, 2])

    def test_short_and_long_lines(self):
        for kinds in list(short_lines(4)) + list(long_lines(60)):
            for begin in (3, 2):
                told = [measure for measure, part in stretches(kinds, begin) for sign in part]
                self.assertEqual(measures(line_of(kinds), begin), told, (kinds, begin))

    def test_four_hundred(self):
        self.check("s" * 199 + "2" + "G" * 200, 3, [3] * 199 + [2] * 201)
        self.check("." * 399 + "3", 2, [2] * 399 + [3])
        self.check("32" * 200, 2, [3, 2] * 200)

    def test_kinds(self):
        told = measures(line_of("Gs2s3"))
        self.assertIs(type(told), list)
        self.assertEqual({type(measure) for measure in told}, {int})

    def test_the_line_stays_and_is_not_kept(self):
        line = line_of("Gs2s3s")
        before = list(line)
        told = measures(line)
        self.assertEqual(line, before)
        told.clear()
        self.assertEqual(measures(line), [3, 3, 2, 2, 3, 3])
        line[0] = ("2", 0)
        self.assertEqual(measures(line), [2, 2, 2, 2, 3, 3])

    def test_argument(self):
        self.assertEqual(str(inspect.signature(measures)), "(line, begin=3)")


class RunsTest(unittest.TestCase):
    def check(self, kinds, begin, told):
        with self.subTest(kinds, begin=begin):
            self.assertEqual(runs(line_of(kinds), begin), told)

    def test_empty(self):
        self.check("", 3, [])
        self.check("", 2, [])
        self.assertEqual(runs([]), [])

    def test_no_run(self):
        self.check("G", 3, [])
        self.check("GDR.3", 3, [])
        self.check("2ssdr", 3, [])
        self.check("ssdr", 2, [])
        self.check("sG.d2r", 2, [])

    def test_one_run(self):
        for kinds in ("s", "d", "r", "sdr", "rrrr", "sdrsdrsdr"):
            self.check(kinds, 3, [(0, len(kinds))])
        self.check("s" * 400, 3, [(0, 400)])
        self.check("s" * 400, 2, [])

    def test_at_either_end(self):
        self.check("sdG", 3, [(0, 2)])
        self.check("Gsd", 3, [(1, 3)])
        self.check("sGd", 3, [(0, 1), (2, 3)])
        self.check("GsdrG", 3, [(1, 4)])

    def test_parted_by_each_sign(self):
        for kind in "GDR.3":
            self.check("sd" + kind + "rss", 3, [(0, 2), (3, 6)])
            self.check("sd" + kind * 2 + "rss", 3, [(0, 2), (4, 7)])
        self.check("sd2rss", 3, [(0, 2)])
        for kind in "GDR.2":
            self.check("sd" + kind + "rss", 2, [])
        self.check("sd3rss", 2, [(3, 6)])

    def test_cut_off_and_begun_anew(self):
        self.check("ss2ss3ss", 3, [(0, 2), (6, 8)])
        self.check("ss2ss3ss", 2, [(6, 8)])
        self.check("s23s", 3, [(0, 1), (3, 4)])
        self.check("s32s", 3, [(0, 1)])
        self.check("2s3", 3, [])
        self.check("3s2", 2, [(1, 2)])

    def test_begin_left_out(self):
        self.assertEqual(runs(line_of("sGss")), [(0, 1), (2, 4)])
        self.assertEqual(runs(line_of("sGss"), begin=2), [])

    def test_short_and_long_lines(self):
        for kinds in list(short_lines(4)) + list(long_lines(60)):
            for begin in (3, 2):
                self.assertEqual(runs(line_of(kinds), begin), plain_reading(kinds, begin)[1], (kinds, begin))

    def test_kinds(self):
        told = runs(line_of("sGss"))
        self.assertIs(type(told), list)
        self.assertEqual({type(run) for run in told}, {tuple})

    def test_asked_again_behind_a_change(self):
        line = line_of("sGss.d")
        before = list(line)
        told = runs(line)
        told.append((7, 9))
        told[0] = (5, 5)
        self.assertEqual(line, before)
        self.assertEqual(runs(line), [(0, 1), (2, 4), (5, 6)])
        line[1] = ("r", 0)
        self.assertEqual(runs(line), [(0, 4), (5, 6)])
        self.assertEqual(runs([]), [])
        runs([]).append((0, 1))
        self.assertEqual(runs([]), [])

    def test_argument(self):
        self.assertEqual(str(inspect.signature(runs)), "(line, begin=3)")


class TurnedTest(unittest.TestCase):
    def test_every_kind(self):
        self.assertEqual(turned([]), [])
        for kind in KINDS:
            line = [(kind, 23 if kind in "GDsd" else 0)]
            told = [({"3": "2", "2": "3"}.get(kind, kind), line[0][1])]
            self.assertEqual(turned(line), told)
        line = [("G", 3), ("3", 0), ("d", 2), (".", 0), ("2", 0), ("3", 0), ("R", 0)]
        told = [("G", 3), ("2", 0), ("d", 2), (".", 0), ("3", 0), ("2", 0), ("R", 0)]
        self.assertEqual(turned(line), told)

    def test_every_tone_stays(self):
        line = [(kind, tone) for kind in "GDsd" for tone in range(100)]
        self.assertEqual(turned(line), line)

    def test_short_and_long_lines(self):
        for kinds in list(short_lines(4)) + list(long_lines(60)):
            line = line_of(kinds)
            told = turned(line)
            self.assertEqual(kinds_of(told), kinds.replace("3", "x").replace("2", "3").replace("x", "2"))
            self.assertEqual([tone for kind, tone in told], [tone for kind, tone in line])
            self.assertEqual(turned(told), line)

    def test_what_was_handed_in_stays(self):
        for kinds in ("", "GsD", "3G2"):
            line = line_of(kinds)
            before = list(line)
            told = turned(line)
            self.assertEqual(line, before)
            self.assertIsNot(told, line)
            self.assertIs(type(told), list)
            self.assertTrue(all([type(sign) is tuple for sign in told]))
            told.append(("R", 0))
            self.assertEqual(line, before)
            told.clear()
            self.assertEqual(kinds_of(turned(line)), {"": "", "GsD": "GsD", "3G2": "2G3"}[kinds])


if __name__ == "__main__":
    unittest.main()
