"""When a paper holds (points 14 and 15)."""

import copy
import inspect
import random
import unittest

from noteworth.papers import holds
from noteworth.prices import price
from noteworth.reader import wishes_of
from noteworth.writer import written
from plainly import ENDS, STEPS, line_of, plain_reading, short_lines, written_steps

BARRED = (None, None, None)
NO_STATES = ("", "2", "3", "2-- ", "2s", "3n0", "3n1-", "3t0s", "3t1s", "3n1S", "3x0-", "3N0-", "G", "3n0-3n0-")


def plain_holds(wishes, prices, bound, paper, begin):
    """Point 14 said once more, by the steps as they are written out."""
    if len(paper) != len(wishes) + 1:
        return False
    for pairs in paper:
        named = [state for state, number in pairs]
        if len(named) != len(set(named)) or set(named) - set(STEPS):
            return False
    if dict(paper[0]).get("3n0-" if begin == 3 else "2-", 1) > 0:
        return False
    dot, dark, measure = prices
    costs = {".": dot, "D": dark, "d": dark, "3": measure, "2": measure}
    for at, pairs in enumerate(paper):
        for state, number in pairs:
            for (kind, worth), to in written_steps(state).items():
                cost = costs.get(kind, 0)
                if cost is None:
                    continue
                if kind in ".32":
                    following = dict(pairs)
                elif wishes[at:] and wishes[at][1] == worth and (wishes[at][0] == -1) == (kind in "Rr"):
                    following = dict(paper[at + 1])
                else:
                    continue
                if to not in following or following[to] > number + cost:
                    return False
    return not [state for state, number in paper[-1] if state in ENDS and (bound is None or number < bound)]


def spoilt(paper, chance):
    """A paper made another one in one of the ways that point 14 names."""
    paper = [list(pairs) for pairs in paper] or [[]]
    way = chance.randrange(12)
    if way == 0:
        return paper[:-1]
    if way == 1:
        return paper + [list(chance.choice(paper))]
    pairs = chance.choice(paper)
    if way == 2:
        pairs.append((chance.choice(NO_STATES), chance.randrange(-2, 3)))
    elif way == 3:
        pairs.append((chance.choice(sorted(STEPS)), chance.randrange(-3, 12)))
    elif pairs:
        at = chance.randrange(len(pairs))
        state, number = pairs[at]
        if way == 4:
            pairs.append((state, number + chance.choice((0, 1))))
        elif way == 5:
            del pairs[at]
        else:
            pairs[at] = (state, number + chance.choice((-9, -1, 1, 1, 2, 9)))
    return paper


class HoldsTest(unittest.TestCase):
    def check(self, due, wishes, prices, bound, paper, begin=3):
        handed = (copy.deepcopy(wishes), copy.deepcopy(paper))
        self.assertIs(holds(wishes, prices, bound, paper, begin), due, (wishes, prices, bound, paper, begin))
        self.assertEqual((wishes, paper), handed)
        self.assertEqual(plain_holds(wishes, prices, bound, paper, begin), due)

    def test_how_many_lists(self):
        for wishes in ([], [(5, 3)], [(5, 3), (-1, 3), (7, 2)], [(5, 9)], [(1, 1)] * 60):
            for begin in (3, 2):
                line, cost, paper = written(wishes, (1, 2, 3), begin)
                self.check(True, wishes, (1, 2, 3), cost, paper, begin)
                self.check(False, wishes, (1, 2, 3), cost, paper[:-1], begin)
                self.check(False, wishes, (1, 2, 3), cost, paper[1:], begin)
                self.check(False, wishes, (1, 2, 3), cost, paper + [[]], begin)
                self.check(False, wishes, (1, 2, 3), cost, paper + [paper[-1]], begin)
                self.check(False, wishes, (1, 2, 3), cost, [], begin)
                self.check(False, wishes, (1, 2, 3), None, [], begin)

    def test_no_such_state(self):
        for wishes in ([], [(5, 3)], [(5, 3), (6, 2)]):
            cost, paper = written(wishes, (1, 2, 3))[1:]
            for at in range(len(paper)):
                for state in NO_STATES:
                    other = copy.deepcopy(paper)
                    other[at].append((state, 100))
                    self.check(False, wishes, (1, 2, 3), cost, other)
                    other[at].insert(0, other[at].pop())
                    self.check(False, wishes, (1, 2, 3), cost, other)

    def test_each_state_may_stand(self):
        """All states with the same number: every step stays at or above it."""
        for begin in (3, 2):
            for wishes in ([], [(5, 1)], [(-1, 3), (4, 2), (3, 1), (5, 9)]):
                for number in (0, -1, -100):
                    paper = [[(state, number) for state in sorted(STEPS)]] * (len(wishes) + 1)
                    for prices in ((1, 1, 1), BARRED):
                        self.check(True, wishes, prices, number, paper, begin)
                        self.check(True, wishes, prices, number - 1, paper, begin)
                        self.check(False, wishes, prices, number + 1, paper, begin)
                        self.check(False, wishes, prices, None, paper, begin)
                self.check(False, wishes, BARRED, 1, [[(state, 1) for state in STEPS]] * (len(wishes) + 1), begin)

    def test_a_state_twice(self):
        wishes = [(5, 3), (6, 3)]
        cost, paper = written(wishes, (1, 2, 3))[1:]
        for at in range(3):
            for state, number in paper[at]:
                for more in (-1, 0, 1):
                    other = copy.deepcopy(paper)
                    other[at].append((state, number + more))
                    self.check(False, wishes, (1, 2, 3), cost, other)
                    other[at].reverse()
                    self.check(False, wishes, (1, 2, 3), cost, other)

    def test_the_state_to_begin_with(self):
        for begin, state, other in ((3, "3n0-", "2-"), (2, "2-", "3n0-")):
            for number, due in ((0, True), (-1, True), (-50, True), (1, False), (2, False)):
                self.check(due, [], BARRED, number, [[(state, number)]], begin)
            self.check(False, [], BARRED, 0, [[]], begin)
            self.check(False, [], BARRED, 0, [[(other, 0)]], begin)
            self.check(True, [], BARRED, 0, [[(other, 0), (state, 0)]], begin)

    def test_begin_left_out(self):
        self.assertIs(holds([], BARRED, 0, [[("3n0-", 0)]]), True)
        self.assertIs(holds([], BARRED, 0, [[("2-", 0)]]), False)
        self.assertIs(holds([], BARRED, 0, [[("2-", 0)]], begin=2), True)
        self.assertEqual(str(inspect.signature(holds)), "(wishes, prices, bound, paper, begin=3)")

    def test_parting_steps(self):
        measure = (None, None, 4)
        self.check(True, [], measure, 0, [[("3n0-", 0), ("2-", 4)]])
        self.check(True, [], measure, 0, [[("3n0-", 0), ("2-", 0)]])
        self.check(False, [], measure, 0, [[("3n0-", 0), ("2-", 5)]])
        self.check(False, [], measure, 0, [[("3n0-", 0)]])
        self.check(True, [], measure, -4, [[("3n0-", 0), ("2-", -4)]])
        self.check(False, [], measure, -5, [[("3n0-", 0), ("2-", -5)]])
        self.check(True, [], BARRED, 0, [[("3n0-", 0)]])
        dot = (7, None, None)
        self.check(True, [], dot, 0, [[("2-", 0), ("2G", -7)]], 2)
        self.check(False, [], dot, 0, [[("2-", 0), ("2G", -8)]], 2)
        self.check(True, [], BARRED, 0, [[("2-", 0), ("2G", -8)]], 2)
        self.check(False, [], dot, 0, [[("3n0-", 0), ("2G", 0)]])
        self.check(True, [], dot, 0, [[("3n0-", 0), ("2g", 0)]])

    def test_parting_steps_in_each_list(self):
        wishes = [(5, 3), (6, 3)]
        right = [[("3n0-", 0), ("2-", 4)], [("3w0-", 0), ("3n0-", 4), ("2-", 4)], [("3w0-", 0), ("3n0-", 4), ("2-", 4)]]
        prices = (None, None, 4)
        right[1].append(("2G", 4))
        right[2].append(("2G", 4))
        self.check(True, wishes, prices, 0, right)
        for at in range(3):
            for place, (state, number) in enumerate(right[at]):
                other = copy.deepcopy(right)
                other[at][place] = (state, number + 1)
                self.check(False, wishes, prices, 0, other)
                del other[at][place]
                self.check(False, wishes, prices, 0, other)

    def test_wish_steps(self):
        for wish, to in (((5, 3), "3w0-"), ((0, 3), "3w0-"), ((99, 3), "3w0-"), ((5, 2), "3h0-"), ((-1, 3), "3n0-"),
                         ((-1, 1), "3n1o"), ((5, 1), "3n1s")):
            self.check(True, [wish], BARRED, 0, [[("3n0-", 0)], [(to, 0)]])
            self.check(True, [wish], BARRED, -3, [[("3n0-", 0)], [(to, -3)]])
            self.check(False, [wish], BARRED, -3, [[("3n0-", 0)], [(to, 1)]])
            self.check(False, [wish], BARRED, -3, [[("3n0-", 0)], []])
            self.check(False, [wish], BARRED, -3, [[("3n0-", 0), (to, 0)], []])
        self.check(True, [(-1, 2)], BARRED, 5, [[("3n0-", 0)], []])
        self.check(True, [(-1, 2)], BARRED, None, [[("3n0-", 0)], []])
        self.check(True, [(5, 4)], BARRED, None, [[("3n0-", 0)], []])

    def test_dark_notes(self):
        prices = (None, 6, None)
        self.check(True, [(5, 2)], prices, 6, [[("3n0-", 0)], [("3h0-", 0), ("3n0-", 6)]])
        self.check(False, [(5, 2)], prices, 6, [[("3n0-", 0)], [("3h0-", 0), ("3n0-", 7)]])
        self.check(False, [(5, 2)], prices, 6, [[("3n0-", 0)], [("3h0-", 0)]])
        self.check(True, [(5, 2)], BARRED, None, [[("3n0-", 0)], [("3h0-", 0)]])
        self.check(True, [(5, 1)], prices, None, [[("3n0-", 0)], [("3n1s", 0), ("3n1o", 6)]])
        self.check(False, [(5, 1)], prices, None, [[("3n0-", 0)], [("3n1s", 0), ("3n1o", 7)]])
        self.check(False, [(5, 1)], prices, None, [[("3n0-", 0)], [("3n1s", 0)]])
        self.check(True, [(5, 1)], BARRED, None, [[("3n0-", 0)], [("3n1s", 0)]])

    def test_wish_steps_at_each_place(self):
        wishes = [(5, 3), (-1, 1), (7, 1), (8, 1), (-1, 3)]
        right = [[("3n0-", 0)], [("3w0-", 0)], [("3w1o", 0)], [("3w2s", 0)], [("3w0s", 0)], [("3n0-", 0)]]
        self.check(True, wishes, BARRED, 0, right)
        for at in range(1, 6):
            other = copy.deepcopy(right)
            other[at] = [(right[at][0][0], 1)]
            self.check(False, wishes, BARRED, 0, other)
            other[at] = []
            self.check(False, wishes, BARRED, 0, other)
            other[at] = [("3n0-" if right[at][0][0] != "3n0-" else "3w0-", 0)]
            self.check(False, wishes, BARRED, 0, other)

    def test_the_bound(self):
        """A line may not end in `3n1s`, so each other state's number stands alone against the bound."""
        for state in sorted(STEPS):
            if state != "3n1s":
                paper = [[("3n0-", 0)], [("3n1s", 0), (state, 5)]]
                for bound, fits in ((-9, True), (4, True), (5, True), (6, False), (99, False), (None, False)):
                    self.check(fits or state not in ENDS, [(5, 1)], BARRED, bound, paper)

    def test_every_end_s_number_is_asked(self):
        for one, other in ((5, 5), (5, 6), (6, 5), (4, 5), (5, 4)):
            paper = [[("3n0-", 0)], [("3n1s", 0), ("2g", one), ("3t0-", other)]]
            self.check(min(one, other) >= 5, [(5, 1)], BARRED, 5, paper)

    def test_the_bound_is_asked_of_the_last_list_alone(self):
        self.check(True, [(5, 1)], BARRED, None, [[("3n0-", 0)], [("3n1s", 0)]])
        self.check(True, [(5, 1)], BARRED, 77, [[("3n0-", 0)], [("3n1s", 0)]])
        self.check(True, [(5, 3), (5, 1)], BARRED, None, [[("3n0-", 0)], [("3w0-", 0)], [("3w1s", 0)]])

    def test_a_great_number(self):
        great = 10 ** 40
        self.check(True, [], BARRED, -great, [[("3n0-", -great)]])
        self.check(False, [], BARRED, -great + 1, [[("3n0-", -great)]])
        self.check(False, [], BARRED, great, [[("3n0-", great)]])

    def test_told_and_spoilt_papers(self):
        """Right papers, and papers spoilt in every way, with bounds about the right one."""
        chance = random.Random(14)
        counts = {True: 0, False: 0}
        for many in range(500):
            wishes = [(chance.choice((-1, 5, 60)), chance.choice((1, 1, 1, 2, 2, 3, 3, 4))) for each in range(many % 6)]
            prices = tuple([chance.choice((1, 2, 5, 9, None)) for each in range(3)])
            begin = chance.choice((3, 2))
            cost, right = written(wishes, prices, begin)[1:]
            paper = right
            for again in range(8):
                bound = chance.choice((cost, cost, None, 0, (cost or 0) + 1, (cost or 0) - 1))
                due = plain_holds(wishes, prices, bound, paper, begin)
                self.check(due, wishes, prices, bound, paper, begin)
                counts[due] += 1
                if due:
                    self.assertTrue(cost is None or (bound is not None and bound <= cost))
                paper = spoilt(chance.choice((right, right, paper)), chance)
        self.assertGreater(min(counts.values()), 300, counts)


class BoundTest(unittest.TestCase):
    """Point 15: no line with these wishes is cheaper than the bound of a paper that holds."""

    def test_short_lines(self):
        chance = random.Random(15)
        lines = [kinds for kinds in short_lines(5) if len(kinds) < 4 or chance.randrange(40) == 0]
        tried = 0
        for kinds in lines:
            begin = chance.choice((3, 2))
            if plain_reading(kinds, begin)[2]:
                continue
            line = line_of(kinds)
            wishes = wishes_of(line, begin)
            prices = tuple([chance.choice((1, 2, 9)) for each in range(3)])
            lowest = price(line, prices)
            cost, paper = written(wishes, prices, begin)[1:]
            self.assertTrue(holds(wishes, prices, cost, paper, begin))
            papers = [paper] + [spoilt(paper, chance) for each in range(5)]
            papers += [spoilt(papers[-1], chance), written(wishes, (9, 9, 9), begin)[2]]
            for each in papers:
                self.assertIs(holds(wishes, prices, None, each, begin), False, kinds)
                for bound in (lowest + 1, lowest + 2, lowest + 9):
                    self.assertIs(holds(wishes, prices, bound, each, begin), False, (kinds, each))
                    tried += 1
        self.assertGreater(tried, 5000)


if __name__ == "__main__":
    unittest.main()
