"""Papers, which show that no line with the same wishes is cheaper than a bound."""

from noteworth.moves import parting_moves, wish_moves
from noteworth.steps import begin_state, ends, states


def names_states(pairs, known):
    """Tell whether each pair has one of the known states, and none of them stands there twice."""
    named = [state for state, number in pairs]
    return len(set(named)) == len(named) and all([state in known for state in named])


def bounds(numbers, state, most):
    """Tell whether a state stands among the numbers, with one that is at most the given one."""
    return state in numbers and numbers[state] <= most


def bounds_parting_moves(numbers, prices):
    """Tell whether each move by a parting sign is bounded by the same numbers."""
    for state, number in numbers.items():
        for sign, cost, to in parting_moves(state, prices):
            if not bounds(numbers, to, number + cost):
                return False
    return True


def bounds_wish_moves(numbers, following, wish, prices):
    """Tell whether each move by a sign with the wish is bounded by the numbers of the following list."""
    for state, number in numbers.items():
        for sign, cost, to in wish_moves(state, wish, prices):
            if not bounds(following, to, number + cost):
                return False
    return True


def reaches_bound(numbers, bound):
    """Tell whether no line may end with a number below the bound, or at all where the bound is None."""
    last = [number for state, number in numbers.items() if ends(state)]
    if bound is None:
        return last == []
    return all([number >= bound for number in last])


def holds(wishes, prices, bound, paper, begin=3):
    """Tell whether a paper holds for wishes, prices, a bound and a measure."""
    known = states()
    if len(paper) != len(wishes) + 1 or not all([names_states(pairs, known) for pairs in paper]):
        return False
    lists = [{state: number for state, number in pairs} for pairs in paper]
    if not bounds(lists[0], begin_state(begin), 0):
        return False
    if not all([bounds_parting_moves(numbers, prices) for numbers in lists]):
        return False
    for at, wish in enumerate(wishes):
        if not bounds_wish_moves(lists[at], lists[at + 1], wish, prices):
            return False
    return reaches_bound(lists[-1], bound)
