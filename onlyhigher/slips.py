"""Slips, which are rises that nobody asked for, and cells that are stuck."""

from onlyhigher.cards import next_places, place_of, places_above, states
from onlyhigher.codes import values_of
from onlyhigher.errors import Crowded
from onlyhigher.strengths import asked_strengths, asks_among, best_ranks, is_rank_row


def crowded(code, slips):
    """Return the first pair of states that so many slips can make one, None if the code withstands them."""
    # It is told soon that there is no such pair; only where there is one all pairs are looked through.
    if all([len(near) < 2 for near in labels_near(code, slips)]):
        return None
    card, labels = code
    return first_meeting([(state, name) for state, name in zip(states(card), labels) if name is not None], slips)


def labels_near(code, slips):
    """Return, for each state, a dict: the labels of the states in whose balls it is, each with the fewest slips."""
    card, labels = code
    risen = next_places(card)
    found = [{} for _ in labels]
    for place, name in enumerate(labels):
        if name is not None:
            found[place][name] = 0
        # All states from which a slip leads here stand ahead of it, so nothing is added here any more.
        for read, many in list(found[place].items()):
            if many < slips:
                for at in risen[place]:
                    found[at][read] = min(many + 1, found[at].get(read, slips))
    return found


def first_meeting(rows, slips):
    """Return the first pair of states of rows, each with its label, that have unlike labels and balls that meet."""
    for at, (state, name) in enumerate(rows):
        for other, behind in rows[at + 1:]:
            if name != behind and balls_meet(state, other, slips):
                return (state, other)
    return None


def balls_meet(state, other, slips):
    # Each state that is in both balls is this one, or above it.
    least = [max(level, behind) for level, behind in zip(state, other)]
    return sum(least) - min(sum(state), sum(other)) <= slips


def require_apart(code, slips):
    pair = crowded(code, slips)
    if pair is not None:
        raise Crowded(pair)


def read_as(code, slips, state):
    """Return the label of the states that slips can have made this one of, None if there are none."""
    place = place_of(code[0], state)
    require_apart(code, slips)
    near = list(labels_near(code, slips)[place])
    if not near:
        return None
    # As the code withstands the slips, there is no other one.
    return near[0]


def turn_strengths(code, slips):
    """Return the strengths under so many slips behind each write."""
    require_apart(code, slips)
    return slip_strengths(code, [[0] * (slips + 1)])[0]


def slip_ranks_hold(code, slips, value):
    """Tell whether value is the strengths under so many slips behind each write."""
    ranks = turn_strengths(code, slips)
    return is_rank_row(code[1], value) and value == ranks


def all_strengths(code, slips):
    """Return, for each number of slips left, the strengths with so many slips in all."""
    require_apart(code, slips)
    return slip_strengths(code, [[left - gone for gone in range(left + 1)] for left in range(slips + 1)])


def slip_strengths(code, games):
    """Return a tuple of strengths for each game.

    A game has an item for each number of slips that may come now, from 0 on: the place of the game that
    goes on behind them.
    """
    card, labels = code
    above, rings, values = places_above(card), rings_of(card, len(games[-1]) - 1), values_of(code)
    ranks = [[None] * len(labels) for _ in games]
    best = [[None] * len(labels) for _ in games]
    # What slips make of a state stands behind it, so it is known there already what can be written from that.
    for place in reversed(range(len(labels))):
        for at in range(len(games)):
            best[at][place] = best_ranks(labels, above[place], ranks[at])
        if labels[place] is not None:
            others = [value for value in values if value != labels[place]]
            for at, game in enumerate(games):
                reached = [best[goal][slipped] for goal, ring in zip(game, rings[place]) for slipped in ring]
                ranks[at][place] = 1 + min([row.get(value, -1) for row in reached for value in others])
    return tuple([tuple(row) for row in ranks])


def rings_of(card, slips):
    """Return, for each state, a list whose item i has the places of all states that i slips make of it."""
    risen = next_places(card)
    found = []
    for place in range(len(risen)):
        ring = [place]
        rings = [ring]
        for _ in range(slips):
            ring = sorted(set([higher for at in ring for higher in risen[at]]))
            rings.append(ring)
        found.append(rings)
    return found


def stuck_strengths(code, cells):
    """Return the strengths if these cells never rise."""
    card, labels = code
    rows = states(card)
    above = [
        [at for at in places if all([rows[at][cell] == rows[place][cell] for cell in cells])]
        for place, places in enumerate(places_above(card))
    ]
    return asked_strengths(labels, above, asks_among(code, values_of(code)))
