"""How many values can be written one behind another, whatever a foe names."""

from onlyhigher.cards import places_above
from onlyhigher.codes import labelled_place, require_values, values_of
from onlyhigher.errors import Unfit
from onlyhigher.values import is_ascending, is_integer


def strengths(code):
    """Return the ranks of the code."""
    return strengths_among(code, values_of(code))


def strength(code, state):
    """Return the strength of a labelled state."""
    place = labelled_place(code, state)
    return strengths(code)[place]


def lot_strengths(code, lot):
    """Return the strengths against a foe who names values of the lot alone."""
    require_values(code, lot)
    if len(lot) < 2 or not is_ascending(lot):
        raise Unfit()
    return strengths_among(code, lot)


def strengths_among(code, lot):
    return asked_strengths(code[1], places_above(code[0]), asks_among(code, lot))


def asks_among(code, lot):
    """Return, for each value of the code, the values of lot other than it."""
    return {name: [value for value in lot if value != name] for name in values_of(code)}


def asked_strengths(labels, above, asks):
    """Return the strengths if writes go to the places of above, and behind a label comes what asks has for it."""
    ranks = [None] * len(labels)
    # All states above a state stand behind it, so they have their ranks already.
    for place in reversed(range(len(labels))):
        name = labels[place]
        if name is not None:
            ranks[place] = rank_at(labels, above[place], ranks, asks[name])
    return tuple(ranks)


def rank_at(labels, places, ranks, asked):
    """Return the rank of a state behind which asked comes, if the states above it, at places, have these ranks."""
    best = best_ranks(labels, places, ranks)
    return 1 + min([best.get(value, -1) for value in asked])


def best_ranks(labels, places, ranks):
    """Return, for each label of the states at places, the greatest rank of such a state."""
    best = {}
    for at in places:
        name = labels[at]
        if name is not None and ranks[at] > best.get(name, -1):
            best[name] = ranks[at]
    return best


def ranks_hold(code, value):
    """Tell whether value is the ranks of the code."""
    return asked_ranks_hold(code, asks_among(code, values_of(code)), value)


def asked_ranks_hold(code, asks, value):
    """Tell whether value is the strengths if behind a label comes what asks has for it."""
    card, labels = code
    if not is_rank_row(labels, value):
        return False
    above = places_above(card)
    # Just one rank fits the ranks above a state: none is told too small (the foe) or too great (the writer).
    for place, name in enumerate(labels):
        if name is not None and value[place] != rank_at(labels, above[place], value, asks[name]):
            return False
    return True


def is_rank_row(labels, value):
    """Tell whether value has an integer from 0 on for each label, and None for each state without one."""
    if not isinstance(value, tuple) or len(value) != len(labels):
        return False
    for name, rank in zip(labels, value):
        if (name is None) != (rank is None):
            return False
        if rank is not None and (not is_integer(rank) or rank < 0):
            return False
    return True
