"""Steps (point 11): the states, each step, where a line may end, and steps held against the reading."""

import inspect
import unittest

from noteworth.reader import firm, worths
from noteworth.steps import begin_state, ends, states, step
from plainly import ENDS, KINDS, SMALL_0, STEPS, line_of, long_lines, short_lines, written_steps

THREEFOLD = [state for state in STEPS if state[0] == "3"]


def signs_of(kind):
    return [(kind, tone) for tone in ((0, 1, 2, 3, 99) if kind in "GDsd" else (0,))]


def walked(line, told, begin):
    """The state behind a line with told worths, or None."""
    state = begin_state(begin)
    for sign, worth in zip(line, told):
        state = step(state, sign, worth)
        if state is None:
            return None
    return state


class StatesTest(unittest.TestCase):
    def test_twenty_eight_sorted(self):
        self.assertEqual(len(states()), 28)
        self.assertEqual(len(set(states())), 28)
        self.assertEqual(states(), sorted(states()))
        self.assertEqual(states(), sorted(STEPS))
        self.assertIs(type(states()), list)
        self.assertEqual({type(state) for state in states()}, {str})

    def test_forms(self):
        """Every text of that form, less those that point 11 leaves out, is a state; and nothing else is."""
        told = ["2-", "2g", "2G"]
        for left in "nwht":
            for count in "012":
                for last in "-sSo":
                    fits = count == "0" if last == "-" else left != "t" and (last != "S" or count == "2")
                    if fits:
                        told.append("3" + left + count + last)
        self.assertEqual(states(), sorted(told))

    def test_asked_again_behind_a_change(self):
        told = states()
        before = list(told)
        told[0] = "3x9?"
        told.append("2-")
        told.reverse()
        self.assertEqual(states(), before)
        states().clear()
        self.assertEqual(states(), before)

    def test_begin_state(self):
        self.assertEqual(begin_state(3), "3n0-")
        self.assertEqual(begin_state(2), "2-")
        self.assertEqual(begin_state(), "3n0-")
        self.assertEqual(begin_state(begin=2), "2-")

    def test_arguments(self):
        self.assertEqual(str(inspect.signature(states)), "()")
        self.assertEqual(str(inspect.signature(begin_state)), "(begin=3)")
        self.assertEqual(str(inspect.signature(step)), "(state, sign, worth)")
        self.assertEqual(str(inspect.signature(ends)), "(state)")


class StepTest(unittest.TestCase):
    def leads(self, froms, kind, told, to):
        """Each of these states leads by a kind to a state with the told worths, and nowhere with others."""
        for state in froms:
            for worth in range(10):
                for sign in signs_of(kind):
                    due = to if worth in told else None
                    self.assertEqual(step(state, sign, worth), due, (state, sign, worth))

    def nowhere(self, froms, kinds):
        for kind in kinds:
            self.leads(froms, kind, [], None)

    def test_every_step(self):
        for state in states():
            due = written_steps(state)
            for kind in KINDS:
                for worth in range(10):
                    for sign in signs_of(kind):
                        told = step(state, sign, worth)
                        self.assertEqual(told, due.get((kind, worth)), (state, sign, worth))
                        if told is not None:
                            self.assertIs(type(told), str)
                            self.assertIn(told, states())

    def test_closing_with_count_0(self):
        self.nowhere(["3h0-", "3h0s", "3h0o"], "GDR.32")
        froms = ["3n0-", "3n0s", "3n0o", "3w0-", "3w0s", "3w0o"]
        self.leads(froms, "D", [2], "3n0-")
        self.leads(froms, "R", [3], "3n0-")
        self.leads(froms + ["3t0-"], ".", [0], "3n0-")
        self.leads(froms + ["3t0-"], "3", [0], "3n0-")
        self.leads(froms + ["3t0-"], "2", [0], "2-")

    def test_closing_with_count_1(self):
        self.leads(["3h1s", "3h1o"], "D", [2], "3n0-")
        self.leads(["3h1s", "3h1o"], "R", [3], "3n0-")
        self.leads(["3h1s", "3h1o"], ".", [0], "3n0-")
        self.leads(["3h1s", "3h1o"], "2", [0], "2-")
        self.nowhere(["3w1s", "3w1o"], "GDR.32")
        self.nowhere(["3n1s", "3n1o"], "DR.32")
        self.leads(["3n1s", "3n1o"], "G", [2], "3t0-")

    def test_closing_with_count_2(self):
        twos = [state for state in THREEFOLD if state[2] == "2"]
        self.assertEqual(len(twos), 9)
        self.nowhere(twos, ".32")
        self.nowhere([state for state in twos if state not in ("3n2S", "3w2S")], "DR")
        self.nowhere([state for state in twos if state not in ("3n2S", "3w2S", "3h2o")], "G")
        self.leads(["3n2S", "3w2S"], "D", [2], "3n0-")
        self.leads(["3n2S", "3w2S"], "R", [3], "3n0-")
        self.leads(["3h2o"], "G", [2], "3t0-")

    def test_great_signs(self):
        for state in ("3n0-", "3n0s", "3w0o", "3h1s", "3n2S", "3w2S"):
            self.assertEqual(step(state, ("G", 5), 3), "3w0-")
            self.assertEqual(step(state, ("G", 5), 2), "3h0-")
            for worth in (0, 1, 4, 5, 6, 7, 8, 9):
                self.assertIs(step(state, ("G", 5), worth), None)
        self.nowhere(["3t0-"], "GDR")

    def test_small_signs(self):
        following = {"0": "1", "1": "2", "2": "0"}
        for state in THREEFOLD:
            if state[3] == "S":
                self.nowhere([state], "sdr")
                continue
            head = "3" + ("n" if state[1] == "t" else state[1]) + following[state[2]]
            self.leads([state], "d", [1], head + "o")
            self.leads([state], "r", [1], head + "o")
            self.assertEqual(step(state, ("s", 7), 1), head + "s")
            self.assertEqual(step(state, ("s", 7), 2), head + "S" if state[2] == "1" else None)
            for worth in (0, 3, 4, 9):
                self.assertIs(step(state, ("s", 7), worth), None)

    def test_twofold(self):
        self.leads(["2G"], ".", [0], "2-")
        self.nowhere(["2G"], "GDRsdr32")
        self.nowhere(["2g"], ".")
        self.leads(["2-"], ".", [0], "2-")
        for kind in "sdr":
            self.leads(["2-", "2g"], kind, [1], "2-")
        for kind in "DR":
            self.leads(["2-", "2g"], kind, [2], "2-")
        self.leads(["2-", "2g"], "3", [0], "3n0-")
        self.leads(["2-", "2g"], "2", [0], "2-")
        for state in ("2-", "2g"):
            told = [step(state, ("G", 40), worth) for worth in range(10)]
            self.assertEqual(told, [None, None, "2g", "2G"] + [None] * 6)


class EndsTest(unittest.TestCase):
    def test_every_state(self):
        for state in states():
            self.assertIs(ends(state), state in ENDS, state)


class WalkTest(unittest.TestCase):
    """The steps come to an end just where the line is firm and the told worths are its worths."""

    def walks(self, most, begin):
        """Each line of at most so many signs, with all told worths that lead somewhere and where they lead."""
        moves = {state: {kind: [] for kind in KINDS} for state in states()}
        for state in states():
            for kind in KINDS:
                told = [(worth, step(state, (kind, 0), worth)) for worth in range(10)]
                moves[state][kind] = [(worth, to) for worth, to in told if to is not None]
        level = {"": [((), begin_state(begin))]}
        yield from level.items()
        for many in range(most):
            following = {}
            for kinds, ways in level.items():
                for kind in KINDS:
                    following[kinds + kind] = [
                        (told + (worth,), to) for told, state in ways for worth, to in moves[state][kind]
                    ]
            level = following
            yield from level.items()

    def test_short_lines_with_all_told_worths(self):
        for begin in (3, 2):
            for kinds, ways in self.walks(5, begin):
                line = line_of(kinds)
                due = [tuple(worths(line, begin))] if firm(line, begin) else []
                self.assertEqual([told for told, state in ways if ends(state)], due, (kinds, begin))

    def test_short_lines_by_step_itself(self):
        for begin in (3, 2):
            for kinds in short_lines(4):
                line = line_of(kinds)
                told = worths(line, begin)
                state = walked(line, told, begin)
                self.assertEqual(state is not None and ends(state), firm(line, begin), (kinds, begin))
                for at in range(len(told)):
                    for other in (told[at] + 1, told[at] - 1):
                        if other >= 0:
                            state = walked(line, told[:at] + [other] + told[at + 1:], begin)
                            self.assertTrue(state is None or not ends(state), (kinds, at, other))

    def test_long_lines(self):
        firm_ones = 0
        for kinds in long_lines(300):
            for begin in (3, 2):
                line = line_of(kinds)
                state = walked(line, worths(line, begin), begin)
                self.assertEqual(state is not None and ends(state), firm(line, begin), (kinds, begin))
                firm_ones += firm(line, begin)
        self.assertGreater(firm_ones, 10)

    def test_long_firm_lines(self):
        for part in ("Gs", "sG.", "Gssr", "GddG.", "GssG3", "dsD", "2G.s3", "GsGdGr"):
            line = line_of(part * (400 // len(part)))
            told = worths(line, 3)
            self.assertTrue(firm(line, 3), part)
            self.assertTrue(ends(walked(line, told, 3)), part)
            for at in (0, 1, len(line) // 2, len(line) - 1):
                state = walked(line, told[:at] + [told[at] + 1] + told[at + 1:], 3)
                self.assertTrue(state is None or not ends(state), (part, at))

    def test_nothing_handed_in_is_changed(self):
        line = line_of("GddG.")
        before = list(line)
        told = [2, 1, 1, 2, 0]
        self.assertEqual(walked(line, told, 3), "3n0-")
        self.assertEqual((line, told), (before, [2, 1, 1, 2, 0]))


if __name__ == "__main__":
    unittest.main()
