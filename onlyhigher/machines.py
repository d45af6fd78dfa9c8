"""Machines, which tell what may come and what may come then, and the strengths by them."""

from onlyhigher.bounds import MAX_ROOMS
from onlyhigher.cards import places_above
from onlyhigher.codes import labelled_place, values_of
from onlyhigher.errors import BadMachine, Unfit
from onlyhigher.plays import best_state
from onlyhigher.strengths import best_ranks
from onlyhigher.values import is_integer, is_value

# The rank of "ever": more than all numbers of writes, as no card has so many rises.
EVER = 1000


def machine_error(code, value):
    """Return None for a machine of the code, otherwise the first fault of value."""
    if not isinstance(value, tuple) or not 1 <= len(value) <= MAX_ROOMS:
        return "form"
    for place, room in enumerate(value):
        if not is_room(room):
            return ("room", place)
    values = values_of(code)
    for place, room in enumerate(value):
        for k, (name, goal) in enumerate(room):
            # What is no value might be equal to one, as True is to 1.
            if not is_value(name) or name not in values or name in [pair[0] for pair in room[:k]]:
                return ("value", place, k)
            if not is_integer(goal) or not 0 <= goal < len(value):
                return ("goal", place, k)
    return None


def is_room(value):
    if not isinstance(value, tuple) or not value:
        return False
    return all([isinstance(pair, tuple) and len(pair) == 2 for pair in value])


def require_machine(code, machine):
    fault = machine_error(code, machine)
    if fault is not None:
        raise BadMachine(fault)


def machine_ranks(code, machine):
    """Return a list of the ranks of the strengths by the machine, for each room and in it for each state."""
    card, labels = code
    above = places_above(card)
    ranks = [[None] * len(labels) for _ in machine]
    # All states above a state stand behind it, so they have their ranks in all rooms already.
    for place in reversed(range(len(labels))):
        if labels[place] is not None:
            best = [best_ranks(labels, above[place], row) for row in ranks]
            for at, room in enumerate(machine):
                ranks[at][place] = room_rank(room, labels[place], best)
    return ranks


def room_rank(room, read, best):
    """Return the rank of a state that reads read; best has, for each room, the best ranks of the states above it."""
    asked = [best[goal].get(value, -1) for value, goal in room if value != read]
    return min([1 + rank for rank in asked] + [EVER])


def machine_strengths(code, machine):
    """Return the strengths by the machine, for each room."""
    require_machine(code, machine)
    return tuple([
        tuple(["ever" if rank == EVER else rank for rank in row]) for row in machine_ranks(code, machine)
    ])


def machine_ranks_hold(code, machine, value):
    """Tell whether value is the strengths by the machine."""
    found = machine_strengths(code, machine)
    if not isinstance(value, tuple) or not all([isinstance(row, tuple) for row in value]):
        return False
    # True is not 1 here.
    if any([isinstance(item, bool) for row in value for item in row]):
        return False
    return value == found


def machine_state(code, machine, room, state, value):
    """Return the state to go to for value by the machine, None if it can't be written."""
    require_machine(code, machine)
    place = labelled_place(code, state)
    goals = [goal for name, goal in machine[room] if is_value(value) and name == value]
    if code[1][place] == value or not goals:
        raise Unfit()
    return best_state(code, machine_ranks(code, machine)[goals[0]], state, value)
