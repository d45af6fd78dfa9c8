"""Codes that are one code but for the order of the cells and the names of the values."""

from onlyhigher.cards import cell_orders, strides
from onlyhigher.codes import values_of
from onlyhigher.errors import Unfit


def led(code, order, names):
    """Return the code whose cell i is the cell order[i], with its values renamed."""
    card, labels = code
    if sorted(order) != list(range(len(card))):
        raise Unfit()
    if tuple([pair[0] for pair in names]) != values_of(code) or len(set([pair[1] for pair in names])) < len(names):
        raise Unfit()
    newer = {None: None}
    for name, exchanged in names:
        newer[name] = exchanged
    return (led_card(card, order), tuple([newer[name] for name in led_labels(code, order)]))


def led_card(card, order):
    return tuple([card[cell] for cell in order])


def led_labels(code, order):
    """Return the labels in the order in which the states stand behind the cells are exchanged."""
    card, labels = code
    steps = strides(card)
    places = [0]
    for cell in order:
        places = [place + level * steps[cell] for place in places for level in range(card[cell] + 1)]
    return [labels[place] for place in places]


def alike(code, other):
    """Return an order and names by which code becomes other, None if there are none."""
    for order in cell_orders(len(code[0])):
        if led_card(code[0], order) == other[0]:
            newer = names_between(led_labels(code, order), other[1])
            if newer is not None:
                return (order, tuple([(name, newer[name]) for name in values_of(code)]))
    return None


def names_between(labels, others):
    """Return the dict by which labels become others, None if no renaming one to one does it."""
    # No label is no value: None stays as it is.
    newer, elder = {None: None}, {None: None}
    for name, exchanged in zip(labels, others):
        if newer.setdefault(name, exchanged) != exchanged or elder.setdefault(exchanged, name) != name:
            return None
    return newer
