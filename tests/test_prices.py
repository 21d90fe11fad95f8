"""What signs and lines cost (point 12)."""

import inspect
import itertools
import unittest

from noteworth.prices import price
from plainly import KINDS, line_of, long_lines, short_lines

ALL_PRICES = (1, 2, 5, 9, None)


def plain_price(kinds, prices):
    """Point 12 said once more, by counting."""
    counts = (kinds.count("."), kinds.count("D") + kinds.count("d"), kinds.count("3") + kinds.count("2"))
    if any(each is None and count > 0 for each, count in zip(prices, counts)):
        return None
    return sum([(each or 0) * count for each, count in zip(prices, counts)])


class PriceTest(unittest.TestCase):
    def test_empty(self):
        for prices in itertools.product(ALL_PRICES, repeat=3):
            self.assertEqual(price([], prices), 0)

    def test_each_kind(self):
        for kind, due in zip(KINDS, (0, 5, 0, 0, 5, 0, 2, 9, 9)):
            self.assertEqual(price(line_of(kind), (2, 5, 9)), due, kind)

    def test_each_kind_barred(self):
        for kind in KINDS:
            line = line_of(kind)
            self.assertEqual(price(line, (None, 5, 9)), None if kind == "." else price(line, (1, 5, 9)))
            self.assertEqual(price(line, (2, None, 9)), None if kind in "Dd" else price(line, (2, 1, 9)))
            self.assertEqual(price(line, (2, 5, None)), None if kind in "32" else price(line, (2, 5, 1)))
            self.assertEqual(price(line, (None, None, None)), None if kind in "Dd.32" else 0)

    def test_each_price(self):
        line = line_of("G.D2d3s.r.R")
        for dot, dark, measure in itertools.product(range(1, 10), repeat=3):
            self.assertEqual(price(line, (dot, dark, measure)), 3 * dot + 2 * dark + 2 * measure)

    def test_short_lines_with_all_prices(self):
        for kinds in short_lines(3):
            line = line_of(kinds)
            for prices in itertools.product(ALL_PRICES, repeat=3):
                self.assertEqual(price(line, prices), plain_price(kinds, prices), (kinds, prices))

    def test_long_lines(self):
        for kinds in long_lines(60):
            for prices in ((1, 2, 3), (9, 9, 9), (None, 2, 3), (1, None, 3), (1, 2, None), (None, None, 4),
                           (None, 4, None), (4, None, None), (None, None, None)):
                line = line_of(kinds)
                before = list(line)
                self.assertEqual(price(line, prices), plain_price(kinds, prices))
                self.assertEqual(line, before)
        self.assertEqual(price(line_of("." * 400), (9, 1, 1)), 3600)
        self.assertEqual(price(line_of("Gs" * 199 + "GD"), (None, 7, None)), 7)
        self.assertEqual(price(line_of("Gs" * 200), (None, None, None)), 0)

    def test_a_barred_sign_wherever_it_stands(self):
        for at in range(6):
            self.assertIs(price(line_of("GsRrs"[:at] + "." + "GsRrs"[at:]), (None, 1, 1)), None)
            self.assertIs(price(line_of(".D2.d"[:at] + "3" + ".D2.d"[at:]), (1, 1, None)), None)

    def test_kinds_and_arguments(self):
        self.assertIs(type(price([], (1, 1, 1))), int)
        self.assertIs(type(price(line_of("D"), (1, 1, 1))), int)
        self.assertEqual(str(inspect.signature(price)), "(line, prices)")


if __name__ == "__main__":
    unittest.main()
