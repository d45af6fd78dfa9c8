"""Hopeful strengths, and the search for a code of a strength, or a tree that there is none."""

from onlyhigher.bounds import MAX_BEST
from onlyhigher.cards import next_places, states, states_count
from onlyhigher.errors import TooMany

# What stands for the label of a state that is not told yet.
OPEN = "open"


def hopeful_strength(risen, many, labels):
    """Return the hopeful strength of the empty state with the value 0; risen is the next places of the card."""
    reached = [None] * len(labels)
    for place in reversed(range(1, len(labels))):
        over = best_over(risen[place], reached, many)
        reached[place] = [
            max(best, hope_of(over, value)) if labels[place] in (OPEN, value) else best
            for value, best in enumerate(over)
        ]
    return hope_of(best_over(risen[0], reached, many), 0)


def best_over(places, reached, many):
    """Return, for each value, the greatest hopeful strength that it can be written to, -1 if it can't be."""
    return [max([reached[at][value] for at in places], default=-1) for value in range(many)]


def hope_of(over, value):
    return 1 + min([best for other, best in enumerate(over) if other != value])


def open_labels(card):
    """Return the labels of which only that of the empty state is told."""
    return (0,) + (OPEN,) * (states_count(card) - 1)


def code_or_tree(card, many, least):
    """Return a pair: a code of the strength, or None; and a tree that there is none, if there is none."""
    if states_count(card) > MAX_BEST:
        raise TooMany(MAX_BEST)
    labels, tree = search(card, many, least, open_labels(card))
    if labels is None:
        return (None, tree)
    return ((card, labels), None)


def search(card, many, least, labels):
    """Return a pair: the labels of a code with the labels told so far, or None; and a tree that there is none."""
    if hopeful_strength(next_places(card), many, labels) < least:
        return (None, None)
    if OPEN not in labels:
        return (labels, None)
    # A hopeful strength comes near the strength as soon as the states above are told, so the last one is first.
    place = max([at for at, name in enumerate(labels) if name == OPEN])
    nodes = []
    for name in list(range(many)) + [None]:
        found, node = search(card, many, least, labels[:place] + (name,) + labels[place + 1:])
        if found is not None:
            return (found, None)
        nodes.append(node)
    return (None, (states(card)[place], tuple(nodes)))
