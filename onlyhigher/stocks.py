"""How many values can be written on several cards, with spares, whatever a foe names."""

from onlyhigher.cards import places_above, states, strides
from onlyhigher.codes import values_of
from onlyhigher.strengths import best_ranks


def stock_ranks(code, many, spares):
    """Return how many values can be written, for each row of the places of so many cards, with so many spares.

    The rows stand in order, as tuples are compared: so each card has a stride, by which the place of a row moves
    with the place of the card. A row with a card in a state without label has None.
    """
    card, labels = code
    tops = (len(labels) - 1,) * many
    rows, steps, above, values = states(tops), strides(tops), places_above(card), values_of(code)
    ranks = []
    for _ in range(spares + 1):
        fewer = ranks
        ranks = [None] * len(rows)
        # A write raises a card, and so leads to a row behind this one, or takes a spare.
        for at in reversed(range(len(rows))):
            if None not in [labels[place] for place in rows[at]]:
                cards = [(place, at - place * step, step) for place, step in zip(rows[at], steps)]
                ranks[at] = min([card_rank(labels, above, values, ranks, fewer, one) for one in cards])
    return ranks


def card_rank(labels, above, values, ranks, fewer, card):
    """Return how many values can be written if the first one is asked of this card.

    card is a triple: its place, that of the row in which it would be empty, and its stride. ranks are those of the
    rows with as many spares, fewer those with one less, [] if there is none.
    """
    place, base, step = card
    read = labels[place]
    many = len(labels) * step
    best = best_ranks(labels, above[place], ranks[base:base + many:step])
    fresh = best_ranks(labels, list(range(len(labels))), fewer[base:base + many:step]) if fewer else {}
    # A spare is taken only if the value can't be written on the card itself.
    return 1 + min([best.get(value, fresh.get(value, -1)) for value in values if value != read])
