"""Wishes written as cheaply as can be (points 13 and 15)."""

import inspect
import itertools
import random
import unittest

from noteworth.papers import holds
from noteworth.prices import price
from noteworth.reader import firm, wishes_of
from noteworth.signs import good
from noteworth.writer import written
from plainly import STEPS, kinds_of, line_of, plain_reading, short_lines

PRICES = (
    (1, 1, 1), (1, 2, 3), (3, 2, 1), (9, 1, 9), (1, 9, 9), (9, 9, 1), (None, 1, 1), (1, None, 1), (1, 1, None),
    (None, None, 2), (None, 2, None), (2, None, None), (None, None, None),
)

# How many parting signs the lines have, for so many signs that aren't parting, that all are tried below.
MOST_PARTING = {0: 5, 1: 5, 2: 4, 3: 2, 4: 1, 5: 0}


def lines_with(many, parting):
    """All texts of kinds with so many signs that aren't parting, and so many parting ones."""
    for places in itertools.combinations(range(many + parting), parting):
        bags = [".32" if place in places else "GDRsdr" for place in range(many + parting)]
        yield from ["".join(kinds) for kinds in itertools.product(*bags)]


def all_ways(begin):
    """For each shape of few wishes what its lines need: triples (dots, dark notes, measure signs)."""
    found = {}
    for many, most in MOST_PARTING.items():
        for parting in range(most + 1):
            for kinds in lines_with(many, parting):
                worths, runs, loose = plain_reading(kinds, begin)
                if loose == []:
                    shape = tuple([(kind in "Rr", worth) for kind, worth in zip(kinds, worths) if kind not in ".32"])
                    needs = (kinds.count("."), kinds.count("D") + kinds.count("d"), kinds.count("3") + kinds.count("2"))
                    found.setdefault(shape, set()).add(needs)
    return found


def cost_of(needs, prices):
    if any(each is None and need > 0 for each, need in zip(prices, needs)):
        return None
    return sum([each * need for each, need in zip(prices, needs) if need > 0])


def firm_line(chance, many):
    """A drawn firm line in either measure, with at most so many signs that aren't parting."""
    parts = ("Gs", "sG.", "Gdr s", "GddG.", "GssG", "ssD", "srsR", "2G.s3", "2GGd.rD.3", "D", "R", "G", "sdr", "Grr G3",
             ".", "3", "2r3", "GsGdGr", "Gssss", "2D3ddsG", "rrsdsD")
    kinds = ""
    while True:
        more = kinds + chance.choice(parts).replace(" ", "")
        if len([kind for kind in more if kind not in ".32"]) > many:
            return kinds
        if plain_reading(more, 3)[2] == [] and plain_reading(more, 2)[2] == []:
            kinds = more


class WriterCase(unittest.TestCase):
    def check(self, wishes, prices, begin=3):
        """All that point 13 and 15 ask but that no line is cheaper, which the paper shows."""
        before = list(wishes)
        told = written(wishes, prices, begin)
        self.assertIs(type(told), tuple)
        self.assertEqual(len(told), 3)
        line, cost, paper = told
        self.check_paper(paper)
        self.assertIs(holds(wishes, prices, cost, paper, begin), True, (wishes, prices, begin))
        if line is None:
            self.assertIs(cost, None)
        else:
            self.assertIs(type(line), list)
            self.assertTrue(all([type(sign) is tuple and good(sign) for sign in line]), line)
            self.assertIs(type(cost), int)
            self.assertEqual(price(line, prices), cost)
            self.assertTrue(firm(line, begin))
            self.assertEqual(wishes_of(line, begin), wishes)
            self.assertEqual(plain_reading(kinds_of(line), begin)[2], [])
            self.assertLessEqual(len(line), 400)
        self.assertEqual(wishes, before)
        return line, cost, paper

    def check_paper(self, paper):
        self.assertIs(type(paper), list)
        for pairs in paper:
            self.assertIs(type(pairs), list)
            for pair in pairs:
                self.assertIs(type(pair), tuple)
                self.assertEqual([type(part) for part in pair], [str, int])
                self.assertIn(pair[0], STEPS)


class WrittenTest(WriterCase):
    def test_no_wishes(self):
        for prices in PRICES:
            for begin in (3, 2):
                line, cost, paper = self.check([], prices, begin)
                self.assertEqual((line, cost, len(paper)), ([], 0, 1))
        self.assertEqual(written([], (1, 1, 1))[:2], ([], 0))

    def test_one_wish(self):
        self.assertEqual(self.check([(5, 3)], (1, 1, 1))[:2], ([("G", 5)], 0))
        self.assertEqual(self.check([(5, 2)], (1, 1, 1))[:2], ([("D", 5)], 1))
        self.assertEqual(self.check([(5, 2)], (1, 9, 3))[:2], ([("2", 0), ("G", 5)], 3))
        self.assertEqual(self.check([(5, 2)], (1, None, 9))[:2], ([("2", 0), ("G", 5)], 9))
        self.assertEqual(self.check([(5, 2)], (1, None, None))[:2], (None, None))
        self.assertEqual(self.check([(5, 1)], (1, 1, 4))[1], 4)
        self.assertEqual(self.check([(5, 1)], (1, 1, None))[:2], (None, None))
        self.assertEqual(self.check([(-1, 3)], (None, None, None))[:2], ([("R", 0)], 0))
        self.assertEqual(self.check([(-1, 2)], (1, 1, 7))[:2], ([("2", 0), ("R", 0)], 7))
        self.assertEqual(self.check([(0, 1)], (None, None, None), 2)[:2], ([("s", 0)], 0))
        self.assertEqual(self.check([(99, 3)], (2, 1, 9), 2)[:2], ([("G", 99), (".", 0)], 2))
        self.assertEqual(self.check([(99, 3)], (9, 1, 2), 2)[:2], ([("3", 0), ("G", 99)], 2))
        self.assertEqual(self.check([(99, 3)], (None, 1, None), 2)[:2], (None, None))

    def test_begin_left_out(self):
        for wishes in ([(5, 3)], [(5, 2), (6, 1)], [(5, 1), (-1, 1), (7, 1)], [(-1, 2)]):
            self.assertEqual(written(wishes, (1, 2, 3)), written(wishes, (1, 2, 3), 3))
            self.assertEqual(written(wishes, (1, 2, 3), begin=2), written(wishes, (1, 2, 3), 2))
        self.assertEqual(str(inspect.signature(written)), "(wishes, prices, begin=3)")

    def test_worths_above_three(self):
        for worth in range(4, 10):
            for wishes in ([(5, worth)], [(5, 3), (6, worth)], [(-1, worth), (5, 3)], [(1, 3)] * 30 + [(2, worth)]):
                for begin in (3, 2):
                    self.assertEqual(self.check(wishes, (1, 1, 1), begin)[:2], (None, None))

    def test_wishes_of_all_short_lines(self):
        for kinds in short_lines(4):
            for begin in (3, 2):
                if plain_reading(kinds, begin)[2] == []:
                    line = line_of(kinds)
                    for prices in (PRICES[len(kinds)], PRICES[(kinds.count("G") * 5 + kinds.count("s")) % 13]):
                        cost = self.check(wishes_of(line, begin), prices, begin)[1]
                        most = price(line, prices)
                        if most is not None:
                            self.assertLessEqual(cost, most, (kinds, prices, begin))

    def test_wishes_of_longer_lines(self):
        chance = random.Random(13)
        for many in range(120):
            line = line_of(firm_line(chance, chance.choice((6, 10, 20, 40, 60))))
            prices = chance.choice(PRICES)
            for begin in (3, 2):
                cost = self.check(wishes_of(line, begin), prices, begin)[1]
                most = price(line, prices)
                if most is not None:
                    self.assertLessEqual(cost, most)

    def test_nothing_is_paid_where_nothing_is_needed(self):
        chance = random.Random(14)
        for many in range(60):
            kinds = "".join(chance.choices("GGsssrR", k=chance.randrange(61)))
            for begin in (3, 2):
                if plain_reading(kinds, begin)[2] == []:
                    self.assertEqual(self.check(wishes_of(line_of(kinds), begin), (None, None, None), begin)[1], 0)
        for part in ("Gs", "GssG", "Gssr", "ssG", "GsR", "G", "R", "sss"):
            line = line_of((part * 60)[:60 // len(part) * len(part)])
            for prices in ((1, 1, 1), (None, None, None)):
                self.assertEqual(self.check(wishes_of(line), prices)[1], 0, part)

    def test_drawn_wishes(self):
        chance = random.Random(15)
        writable = 0
        for many in range(400):
            worths = (range(1, 10), (1, 2, 3), (1, 1, 1, 2, 3), (1, 1, 2))[many % 4]
            length = chance.choice((1, 2, 3, 5, 9, 60))
            wishes = [(chance.randrange(-1, 100), chance.choice(worths)) for each in range(length)]
            if many % 8 == 1:
                wishes = [(chance.choice((-1, tone)), worth) for tone, worth in wishes]
            line, cost, paper = self.check(wishes, chance.choice(PRICES), chance.choice((3, 2)))
            writable += line is not None
        self.assertTrue(40 < writable < 360, writable)


class CheapestTest(WriterCase):
    """Held against all lines with few parting signs, read by points 6 to 8 said once more."""

    def test_no_line_is_cheaper(self):
        exact = 0
        for begin in (3, 2):
            ways = all_ways(begin)
            for many, most in MOST_PARTING.items():
                shapes = list(itertools.product(itertools.product((False, True), (1, 2, 3)), repeat=many))
                for shape in shapes[::7] if many == 5 else shapes:
                    wishes = [(-1 if is_rest else 40 + at, worth) for at, (is_rest, worth) in enumerate(shape)]
                    needs = ways.get(shape, ())
                    for prices in (PRICES if many < 3 else PRICES[many::5]):
                        cost = written(wishes, prices, begin)[1]
                        exact += self.check_cost(cost, needs, prices, most, (wishes, prices, begin))
        self.assertGreater(exact, 1500)

    def check_cost(self, cost, needs, prices, most, words):
        """Where the told price is too low for more parting signs than were tried, it must be the lowest one."""
        due = [cost_of(need, prices) for need in needs]
        lowest = min([each for each in due if each is not None], default=None)
        parting = [each for each in (prices[0], prices[2]) if each is not None]
        if cost is None:
            self.assertIs(lowest, None, words)
            return 0
        if lowest is not None:
            self.assertLessEqual(cost, lowest, words)
        if not parting or cost <= most * min(parting):
            self.assertEqual(cost, lowest, words)
            return 1
        return 0

    def test_sixty_wishes(self):
        """Sixty wishes whose lowest price can be told by looking at them."""
        due = (
            ([(5, 2)], (None, 2, None), 3, 120), ([(5, 2)], (1, 1, 9), 3, 9), ([(5, 2)], (1, None, None), 3, None),
            ([(5, 2), (6, 1)], (None, None, None), 3, 0), ([(5, 1), (6, 2)], (None, None, None), 3, 0),
            ([(-1, 2)], (3, 1, 5), 3, 5), ([(-1, 2)], (3, 1, 5), 2, 0), ([(-1, 2), (-1, 3)], (3, 1, 5), 3, 300),
            ([(1, 3)], (1, None, None), 2, 60), ([(1, 3)], (1, None, 9), 2, 9), ([(1, 3)], (None, 1, None), 2, None),
            ([(-1, 3), (-1, 1), (-1, 3)], (9, 9, 1), 3, 40), ([(1, 1)], (None, None, None), 3, 0),
        )
        for part, prices, begin, cost in due:
            wishes = part * (60 // len(part))
            self.assertEqual(self.check(wishes, prices, begin)[1], cost, (part, prices, begin))


class AskedAgainTest(WriterCase):
    def test_asked_again(self):
        chance = random.Random(16)
        for many in range(30):
            wishes = wishes_of(line_of(firm_line(chance, 12)))
            prices, others = chance.sample(PRICES, 2)
            first = written(wishes, prices)
            line, cost, paper = first
            due = (None if line is None else list(line), cost, [list(pairs) for pairs in paper])
            written(wishes, others)
            written(wishes, prices, 2)
            if line is not None:
                line.reverse()
                line.append(("R", 0))
            for pairs in paper:
                pairs.clear()
            paper.append([])
            self.assertEqual(written(wishes, prices), due)

    def test_lists_of_a_paper_are_apart(self):
        line, cost, paper = written([(5, 3), (5, 3), (5, 3)], (1, 1, 1))
        before = [list(pairs) for pairs in paper]
        paper[1].append(("2G", 0))
        self.assertEqual([paper[0], paper[2], paper[3]], [before[0], before[2], before[3]])

    def test_somewhat_beyond(self):
        """More wishes, tones, worths and prices than told are not refused."""
        for wishes in ([(5, 3)] * 70, [(100, 3)], [(5, 10)], [(5, 0)], [(-2, 3)]):
            for prices in ((1, 1, 1), (10, 11, 12), (0, 0, 0)):
                for begin in (3, 2):
                    line, cost, paper = written(wishes, prices, begin)
                    self.assertIs(holds(wishes, prices, cost, paper, begin), True)


if __name__ == "__main__":
    unittest.main()
