"""Kinds: what may be asked behind a value, and the strengths of a code by that."""

from onlyhigher.cards import places_above
from onlyhigher.codes import labelled_place, require_values, values_of
from onlyhigher.errors import NoKind, Unfit
from onlyhigher.plays import best_state
from onlyhigher.strengths import asked_ranks_hold, asked_strengths
from onlyhigher.values import is_value, value_rank

KINDS = ("any", "name", "buffer", "up", "both")


def kind_error(code, kind):
    """Return None for a kind that fits the code, otherwise what is wrong with it."""
    if kind not in KINDS:
        return "kind"
    values = values_of(code)
    if kind in ("name", "buffer") and not are_rows(values):
        return "form"
    if kind in ("up", "both") and values != tuple(range(len(values))):
        return "form"
    return None


def are_rows(values):
    """Tell whether values, ascending, are all tuples of one length."""
    # Tuples are the last of all values: if the first one is a tuple, all are.
    return isinstance(values[0], tuple) and all([len(value) == len(values[0]) for value in values])


def require_kind(code, kind):
    fault = kind_error(code, kind)
    if fault is not None:
        raise NoKind(fault)


def asked(code, kind, value):
    """Return the ascending tuple of what is asked behind value."""
    require_kind(code, kind)
    require_values(code, (value,))
    return asked_behind(values_of(code), kind, value)


def asked_behind(values, kind, value):
    if kind == "any":
        found = [other for other in values if other != value]
    elif kind == "name":
        found = rows_changed(values, value)
    elif kind == "buffer":
        found = rows_moved(values, value)
    elif kind == "up":
        found = [(value + 1) % len(values)]
    else:
        above, below = (value + 1) % len(values), (value - 1) % len(values)
        # With two values both are one.
        found = [above] if above == below else [above, below]
    return tuple(sorted(found, key=value_rank))


def rows_changed(values, value):
    """Return all tuples that have at just one place another item than value, one of some value there."""
    found = []
    for place, item in enumerate(value):
        items = {other[place]: True for other in values if other[place] != item}
        found.extend([value[:place] + (newer,) + value[place + 1:] for newer in items])
    return found


def rows_moved(values, value):
    """Return all tuples, but value, that are value without its first item, with an item of some value behind it."""
    items = {item: True for other in values for item in other}
    rows = [value[1:] + (newer,) for newer in items]
    return [row for row in rows if row != value]


def asks_by(code, kind):
    """Return, for each value of the code, what is asked behind it."""
    values = values_of(code)
    return {value: asked_behind(values, kind, value) for value in values}


def kind_strengths(code, kind):
    """Return the strengths by the kind."""
    require_kind(code, kind)
    card, labels = code
    return asked_strengths(labels, places_above(card), asks_by(code, kind))


def kind_ranks_hold(code, kind, value):
    """Tell whether value is the strengths by the kind."""
    require_kind(code, kind)
    return asked_ranks_hold(code, asks_by(code, kind), value)


def kind_state(code, kind, state, value):
    """Return the state to go to for value by the kind, None if it can't be written."""
    ranks = kind_strengths(code, kind)
    place = labelled_place(code, state)
    # What is no value might be equal to one, as True is to 1.
    if not is_value(value) or value not in asked_behind(values_of(code), kind, code[1][place]):
        raise Unfit()
    return best_state(code, ranks, state, value)
