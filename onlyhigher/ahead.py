"""Rows of values that are known ahead."""

from onlyhigher.bounds import MAX_AHEAD
from onlyhigher.cards import places_above, states, states_count
from onlyhigher.codes import require_values, values_of
from onlyhigher.errors import TooMany, Unfit


def row_states(code, values):
    """Return states by which the asked row is done ahead, None if it can't be."""
    card, labels = code
    require_values(code, values)
    if not is_asked_row(labels[0], values):
        raise Unfit()
    above, rows = places_above(card), states(card)
    # For each place that the values so far can lead to: the states by which they do.
    found = {0: ()}
    for value in values:
        further = {}
        for place, done in found.items():
            for at in above[place]:
                if labels[at] == value:
                    further[at] = done + (rows[at],)
        found = further
        if not found:
            return None
    return list(found.values())[0]


def is_asked_row(read, values):
    return all([value != ahead for ahead, value in zip((read,) + values, values)])


def failing_row(code):
    """Return the shortest asked row that can't be done ahead, the least one of these."""
    card, labels = code
    if states_count(card) > MAX_AHEAD:
        raise TooMany(MAX_AHEAD)
    above, values = places_above(card), values_of(code)
    # Pairs of a row and the places that it can lead to. The rows are ascending, so the first that fails is the least.
    rows = [((), (0,))]
    while True:
        further = {}
        for row, places in rows:
            for value, goals in goals_behind(labels, above, values, places):
                if not goals:
                    return row + (value,)
                # Of rows that lead to the same places only the least one can become the least that fails.
                further.setdefault(goals, row + (value,))
        rows = [(row, goals) for goals, row in further.items()]


def goals_behind(labels, above, values, places):
    """Return, for each value but the one that is read at places, a pair of it and the places above that read it."""
    over = sorted(set([at for place in places for at in above[place]]))
    read = labels[places[0]]
    return [(value, tuple([at for at in over if labels[at] == value])) for value in values if value != read]


def ahead_strength(code):
    """Return how many values can always be written if the whole row is known ahead."""
    return len(failing_row(code)) - 1
