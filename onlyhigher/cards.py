"""Cards, their states, and which of these are above which."""

from onlyhigher.bounds import MAX_CELLS, MAX_STATES, MAX_TOP
from onlyhigher.errors import NoState
from onlyhigher.values import is_integer


def card_error(value):
    """Return None for a card, otherwise the first fault of value."""
    if not isinstance(value, tuple) or not 1 <= len(value) <= MAX_CELLS:
        return "form"
    for place, top in enumerate(value):
        if not is_integer(top) or not 1 <= top <= MAX_TOP:
            return ("top", place)
    if states_count(value) > MAX_STATES:
        return "many"
    return None


def states_count(card):
    many = 1
    for top in card:
        many = many * (top + 1)
    return many


def states(card):
    """Return the ascending tuple of all states of the card."""
    rows = [()]
    for top in card:
        rows = [row + (level,) for row in rows for level in range(top + 1)]
    return tuple(rows)


def is_state(card, value):
    if not isinstance(value, tuple) or len(value) != len(card):
        return False
    return all([is_integer(level) and 0 <= level <= top for top, level in zip(card, value)])


def place_of(card, state):
    """Return the place of a state among the states of the card."""
    if not is_state(card, state):
        raise NoState(state)
    place = 0
    for top, level in zip(card, state):
        place = place * (top + 1) + level
    return place


def is_above(state, other):
    """Tell whether other is above state."""
    return other != state and all([low <= high for low, high in zip(state, other)])


def rises(state, other):
    """Return how many rises there are from state to other."""
    return sum(other) - sum(state)


def room(card, state):
    """Return the tops less the levels."""
    return tuple([top - level for top, level in zip(card, state)])


def places_above(card):
    """Return a list with an item for each state, in order: the ascending places of the states above it."""
    rows = [[0]]
    for top in card:
        rows = [risen_places(row, top, least) for row in rows for least in range(top + 1)]
    # Each row begins with the state itself.
    return [row[1:] for row in rows]


def risen_places(row, top, least):
    return [at * (top + 1) + level for at in row for level in range(least, top + 1)]


def strides(card):
    """Return, for each cell, by how much one rise of it moves the place of a state."""
    found = []
    stride = 1
    for top in card[::-1]:
        found = [stride] + found
        stride = stride * (top + 1)
    return found


def next_places(card):
    """Return a list with an item for each state, in order: the places of the states one rise above it."""
    steps = strides(card)
    return [
        [place + step for level, top, step in zip(state, card, steps) if level < top]
        for place, state in enumerate(states(card))
    ]


def cell_orders(many):
    """Return the ascending list of all orders of so many cells."""
    rows = [()]
    for _ in range(many):
        rows = [row + (cell,) for row in rows for cell in range(many) if cell not in row]
    return rows
