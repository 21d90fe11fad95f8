"""The nine kinds, and when a sign is good."""

import unittest

from noteworth.signs import good, great, parting, sets_measure, small, sounds

KINDS = ["G", "D", "R", "s", "d", "r", ".", "3", "2"]
SOUNDING = ["G", "D", "s", "d"]
SILENT = ["R", "r", ".", "3", "2"]
FAR = [10 ** 3, 10 ** 9, 2 ** 64, 10 ** 5000]


class GoodTest(unittest.TestCase):
    def test_sounding_kinds_within_bounds(self):
        for kind in SOUNDING:
            for tone in range(100):
                with self.subTest(kind, tone=tone):
                    self.assertIs(good((kind, tone)), True)

    def test_sounding_kinds_beyond_bounds(self):
        for kind in SOUNDING:
            for tone in [-1, -2, -99, 100, 101, 199] + FAR + [-far for far in FAR]:
                self.assertIs(good((kind, tone)), False)

    def test_silent_kinds_with_nought(self):
        for kind in SILENT:
            with self.subTest(kind):
                self.assertIs(good((kind, 0)), True)

    def test_silent_kinds_with_other_tones(self):
        for kind in SILENT:
            for tone in [-1, 1, 2, 3, 50, 99, 100, -100] + FAR + [-far for far in FAR]:
                self.assertIs(good((kind, tone)), False)

    def test_texts_that_are_no_kind(self):
        others = [chr(code) for code in range(32, 127) if chr(code) not in KINDS]
        pairs = [one + other for one in KINDS for other in KINDS]
        longer = ["GDR", "sdr", ".32", "G ", " G", "G0", "GDRsdr.32", "G" * 1000]
        for kind in [""] + others + pairs + longer:
            for tone in (-1, 0, 1, 99, 100):
                with self.subTest(kind, tone=tone):
                    self.assertIs(good((kind, tone)), False)


class SortTest(unittest.TestCase):
    def check(self, asked, kinds):
        for kind in KINDS:
            for tone in (0, 1, 57, 99) if kind in SOUNDING else (0,):
                with self.subTest(kind, tone=tone):
                    self.assertIs(asked((kind, tone)), kind in kinds)

    def test_great(self):
        self.check(great, ["G", "D", "R"])

    def test_small(self):
        self.check(small, ["s", "d", "r"])

    def test_parting(self):
        self.check(parting, [".", "3", "2"])

    def test_sets_measure(self):
        self.check(sets_measure, ["3", "2"])

    def test_sounds(self):
        self.check(sounds, ["G", "D", "s", "d"])


if __name__ == "__main__":
    unittest.main()
