"""What the writer and the foe are told to do, and how a row of values is written."""

from onlyhigher.cards import is_above, places_above, rises, states
from onlyhigher.codes import asked_place, label, labelled_place, require_values, values_of
from onlyhigher.strengths import best_ranks, strengths


def told_state(code, state, value):
    """Return the state to go to from state for value, None if it can't be written."""
    asked_place(code, state, value)
    return best_state(code, strengths(code), state, value)


def best_state(code, ranks, state, value):
    """Return the state above labelled value of the greatest rank, the nearest one, the least one."""
    card, labels = code
    found = [
        (-ranks[at], rises(state, other), other)
        for at, other in enumerate(states(card))
        if labels[at] == value and is_above(state, other)
    ]
    if not found:
        return None
    return min(found)[2]


def told_foe(code, state):
    """Return the least value that can't be written to a state as strong as this one."""
    card, labels = code
    place = labelled_place(code, state)
    ranks = strengths(code)
    best = best_ranks(labels, places_above(card)[place], ranks)
    foes = [name for name in values_of(code) if name != labels[place] and best.get(name, -1) < ranks[place]]
    # By what a strength is there is such a value at each labelled state.
    return foes[0]


def play(code, values):
    """Return the states behind each of the values, up to the first one that can't be written."""
    require_values(code, values)
    ranks = strengths(code)
    state = states(code[0])[0]
    done = []
    for value in values:
        if label(code, state) != value:
            state = best_state(code, ranks, state, value)
        if state is None:
            break
        done.append(state)
    return tuple(done)


def rises_needed(code, state, many):
    """Return the least number of rises by which many values can be written, whatever the foe names."""
    place = labelled_place(code, state)
    ranks = strengths(code)
    if ranks[place] < many:
        return None
    above = places_above(code[0])
    totals = [sum(levels) for levels in states(code[0])]
    # A cost is the rises that are needed, and those below the state: so costs at unlike states can be compared.
    costs = list(totals)
    for writes in range(1, many + 1):
        costs = [
            None if rank is None or rank < writes else dearest_label(code[1], above[at], costs, code[1][at])
            for at, rank in enumerate(ranks)
        ]
    return costs[place] - totals[place]


def dearest_label(labels, places, costs, read):
    """Return the least cost at places of the label, other than the one read, for which this is greatest."""
    least = {}
    for at in places:
        name, cost = labels[at], costs[at]
        if name is not None and name != read and cost is not None and cost < least.get(name, cost + 1):
            least[name] = cost
    return max(list(least.values()))
