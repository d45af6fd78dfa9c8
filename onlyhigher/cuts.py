"""Writes that may be cut off between two rises, and the ways that are safe then."""

from onlyhigher.cards import cell_orders, is_above, is_state, next_places, places_above, rises, states, strides
from onlyhigher.codes import asked_place, label, values_of
from onlyhigher.strengths import best_ranks, is_rank_row, strengths


def way_error(code, value):
    """Return None for a safe way, otherwise the first fault of value."""
    if not isinstance(value, tuple) or len(value) < 2:
        return "form"
    for place, state in enumerate(value):
        if not is_state(code[0], state):
            return ("state", place)
    for place in range(1, len(value)):
        if not is_above(value[place - 1], value[place]) or rises(value[place - 1], value[place]) != 1:
            return ("rise", place)
    read = [label(code, state) for state in value]
    for place, name in enumerate(read):
        if name is None or name not in (read[0], read[-1]):
            return ("label", place)
    if read[0] == read[-1]:
        return "end"
    return None


def safe_strengths(code):
    """Return the safe strengths."""
    return safe_plan(code)[0]


def safe_plan(code):
    """Return a pair: the safe strengths, and a list with what first_rises tells of each labelled state."""
    card, labels = code
    values, risen = values_of(code), next_places(card)
    ranks = [None] * len(labels)
    firsts = [None] * len(labels)
    # All that is on a way behind a state stands behind it in the order of states, too.
    for place in reversed(range(len(labels))):
        read = labels[place]
        if read is not None:
            firsts[place] = first_rises(labels, ranks, firsts, risen[place], read)
            worst = [firsts[place].get(value, (-1, None))[0] for value in values if value != read]
            ranks[place] = 1 + min(worst)
    return (tuple(ranks), firsts)


def first_rises(labels, ranks, firsts, places, read):
    """Return, for each value that a state which reads read has a safe way for, a pair that tells the best one.

    The pair is the least safe strength of the states on the way, behind the first one, and the place of
    the second state. places are those of the states one rise above the state.
    """
    best = {}
    for at in places:
        # A safe way that comes to a state with the newer value may end there; else it goes on as if begun there.
        if labels[at] == read:
            ends = [(value, min(ranks[at], pair[0])) for value, pair in firsts[at].items()]
        elif labels[at] is not None:
            ends = [(labels[at], ranks[at])]
        else:
            ends = []
        for value, worst in ends:
            if value not in best or worst > best[value][0]:
                best[value] = (worst, at)
    return best


def safe_ranks_hold(code, value):
    """Tell whether value is the safe strengths."""
    return is_rank_row(code[1], value) and value == safe_strengths(code)


def safe_way(code, state, value):
    """Return a safe way from state for value that keeps the safe strength, None if there is no safe way."""
    card, labels = code
    place = asked_place(code, state, value)
    firsts = safe_plan(code)[1]
    if value not in firsts[place]:
        return None
    rows = states(card)
    way = [rows[place]]
    while labels[place] != value:
        place = firsts[place][value][1]
        way.append(rows[place])
    return tuple(way)


# In what follows a lot of orders of the cells is told as an integer: bit k stands for the order at place k.


def safe_orders(code):
    """Return the ascending tuple of all orders by which some way to a strongest state is safe for each write."""
    card, labels = code
    orders = cell_orders(len(card))
    lasts = lots_by_last(orders)
    above, ranks = places_above(card), strengths(code)
    kept = (1 << len(orders)) - 1
    for place, read in enumerate(labels):
        if read is not None:
            kept = kept & kept_at(labels, ranks, last_rises(card, lasts, place, above[place]), place, kept)
    return tuple([order for at, order in enumerate(orders) if kept >> at & 1])


def lots_by_last(orders):
    """Return, for each ascending tuple of cells, a dict: for each of them the lot of the orders in which it is last."""
    rows = [()]
    for cell in range(len(orders[0])):
        rows = rows + [row + (cell,) for row in rows]
    found = {}
    for row in rows[1:]:
        lots = {cell: 0 for cell in row}
        for at, order in enumerate(orders):
            last = [cell for cell in order if cell in row][-1]
            lots[last] = lots[last] | 1 << at
        found[row] = lots
    return found


def last_rises(card, lasts, place, places):
    """Return, for each of places, all of states above that at place, what the last rises on the ways to it are.

    This is a list of pairs: the place of the state ahead of the last rise, and the lot of the orders by
    which the way comes from there. Up to there it is the way by the order to that state.
    """
    rows, steps = states(card), strides(card)
    found = {}
    for at in places:
        raised = tuple([cell for cell in range(len(card)) if rows[place][cell] < rows[at][cell]])
        found[at] = [(at - steps[cell], lasts[raised][cell]) for cell in raised]
    return found


def kept_at(labels, ranks, ahead, place, every):
    """Return the orders of the lot every that do for each value that can be written at place."""
    best = best_ranks(labels, list(ahead), ranks)
    kept = every
    for value in best:
        if value != labels[place]:
            lots = safe_lots(labels, ahead, {place: every}, (labels[place], value))
            goals = [at for at in lots if labels[at] == value and ranks[at] == best[value]]
            kept = kept & joined([lots[at] for at in goals])
    return kept


def safe_lots(labels, ahead, begun, names):
    """Return begun, and for each state of ahead labelled with one of names the orders whose way has no other label."""
    lots = dict(begun)
    for at, pairs in ahead.items():
        if labels[at] in names:
            lots[at] = joined([lot & lots.get(before, 0) for before, lot in pairs])
    return lots


def joined(lots):
    found = 0
    for lot in lots:
        found = found | lot
    return found
