"""Wishes written as cheaply as can be, with a paper that shows it."""

from noteworth.moves import parting_moves, wish_moves
from noteworth.steps import begin_state, ends

# A parting sign leads to one of two states only, so a third one right behind two others never makes a way cheaper.
MOST_PARTING_SIGNS = 2


def keep_cheaper(ways, state, cost, line):
    """Keep a way to a state, a pair (cost, line), where no way that cheap was known."""
    if state not in ways or cost < ways[state][0]:
        ways[state] = (cost, line)


def with_parting_signs(ways, prices):
    """Return the cheapest ways that go on from given ones by parting signs, or by none."""
    found = dict(ways)
    for again in range(MOST_PARTING_SIGNS):
        for state in list(found):
            cost, line = found[state]
            for sign, more, to in parting_moves(state, prices):
                keep_cheaper(found, to, cost + more, line + [sign])
    return found


def with_wish(ways, wish, prices):
    """Return the cheapest ways that go on from given ones by a sign with the wish."""
    found = {}
    for state, (cost, line) in ways.items():
        for sign, more, to in wish_moves(state, wish, prices):
            keep_cheaper(found, to, cost + more, line + [sign])
    return found


def costs(ways):
    """Return the paper's list for the cheapest ways: each state with what it costs to come there."""
    return [(state, cost) for state, (cost, line) in ways.items()]


def written(wishes, prices, begin=3):
    """Return a cheapest line with the wishes, its price, and a paper that shows that no line is cheaper."""
    ways = with_parting_signs({begin_state(begin): (0, [])}, prices)
    paper = [costs(ways)]
    for wish in wishes:
        ways = with_parting_signs(with_wish(ways, wish, prices), prices)
        paper.append(costs(ways))
    endings = [way for state, way in ways.items() if ends(state)]
    if endings == []:
        return (None, None, paper)
    cost, line = min(endings, key=lambda way: way[0])
    return (line, cost, paper)
