"""Codes: a card, and a label or None for each of its states."""

from onlyhigher.bounds import MAX_VALUES
from onlyhigher.cards import card_error, place_of, states, states_count
from onlyhigher.errors import NoValue, Unfit
from onlyhigher.values import is_value, value_rank


def code_error(value):
    """Return None for a code, otherwise the first fault of value."""
    if not isinstance(value, tuple) or len(value) != 2:
        return "form"
    card, labels = value
    fault = card_error(card)
    if fault is not None:
        return ("card", fault)
    if not isinstance(labels, tuple) or len(labels) != states_count(card):
        return "labels"
    return labels_error(labels)


def labels_error(labels):
    for place, name in enumerate(labels):
        if name is not None and not is_value(name):
            return ("label", place)
    if labels[0] is None:
        return "empty"
    many = len({name for name in labels if name is not None})
    if many < 2:
        return "few"
    if many > MAX_VALUES:
        return "many"
    return None


def label(code, state):
    """Return the label of a state, None if it has none."""
    card, labels = code
    return labels[place_of(card, state)]


def labelled_place(code, state):
    """Return the place of a labelled state."""
    place = place_of(code[0], state)
    if code[1][place] is None:
        raise Unfit()
    return place


def asked_place(code, state, value):
    """Return the place of a labelled state at which value, one that it does not read, is asked."""
    place = place_of(code[0], state)
    require_values(code, (value,))
    if code[1][place] is None or code[1][place] == value:
        raise Unfit()
    return place


def values_of(code):
    """Return the ascending tuple of the values of the code."""
    found = {name: True for name in code[1] if name is not None}
    return tuple(sorted(list(found), key=value_rank))


def require_values(code, values):
    """Raise NoValue for the first of values that is no value of the code."""
    known = {name: True for name in code[1] if name is not None}
    for given in values:
        # What is no value might be no key of a dict, or be equal to a value, as True is to 1.
        if not is_value(given) or given not in known:
            raise NoValue(given)


def states_with(code, value):
    """Return the ascending tuple of the states that are labelled with value."""
    if not is_value(value):
        return ()
    card, labels = code
    return tuple([state for state, name in zip(states(card), labels) if name == value])
