"""Trees: papers that a card has no code of a strength."""

from onlyhigher.cards import is_state, next_places, place_of
from onlyhigher.errors import HasCode
from onlyhigher.hopes import OPEN, code_or_tree, hopeful_strength, open_labels


def hopeful(card, many, labels):
    """Return the hopeful strength of the empty state with the value 0."""
    return hopeful_strength(next_places(card), many, labels)


def no_tree(card, many, least):
    """Return a tree that there is no code of the strength least or more."""
    found, tree = code_or_tree(card, many, least)
    if found is not None:
        raise HasCode(found)
    return tree


def tree_holds(card, many, least, value):
    """Tell whether value is a tree that there is no code of the strength least or more."""
    return node_holds(card, many, least, open_labels(card), value)


def node_holds(card, many, least, labels, value):
    """Tell whether value is a tree for the labels told so far."""
    if value is None:
        return hopeful(card, many, labels) < least
    if not isinstance(value, tuple) or len(value) != 2:
        return False
    state, nodes = value
    if not is_state(card, state) or not isinstance(nodes, tuple) or len(nodes) != many + 1:
        return False
    place = place_of(card, state)
    if labels[place] != OPEN:
        return False
    for name, node in zip(list(range(many)) + [None], nodes):
        if not node_holds(card, many, least, labels[:place] + (name,) + labels[place + 1:], node):
            return False
    return True
