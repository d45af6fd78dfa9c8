"""Codes put together of other codes."""

from onlyhigher.bounds import MAX_ITEMS
from onlyhigher.cards import card_error, is_state, states
from onlyhigher.codes import labels_error, values_of
from onlyhigher.errors import Unfit
from onlyhigher.strengths import rank_at, strengths


def joined_card(cards):
    """Return the cards put one behind the other."""
    whole = ()
    for card in cards:
        whole = whole + card
    if card_error(whole) is not None:
        raise Unfit()
    return whole


def made(card, labels):
    if labels_error(labels) is not None:
        raise Unfit()
    return (card, labels)


def items_of(value):
    return value if isinstance(value, tuple) else (value,)


def require_items(code):
    """Raise Unfit if the values of the code have not all as many items, or two have the same; return how many."""
    rows = [items_of(value) for value in values_of(code)]
    if len(set([len(row) for row in rows])) > 1 or len(set(rows)) < len(rows):
        raise Unfit()
    return len(rows[0])


def beside(code, other):
    """Return the code that reads what both codes read, item by item, on both cards."""
    card = joined_card((code[0], other[0]))
    if require_items(code) + require_items(other) > MAX_ITEMS:
        raise Unfit()
    return made(card, tuple([
        None if first is None or second is None else items_of(first) + items_of(second)
        for first in code[1] for second in other[1]
    ]))


def behind(code, other):
    """Return the code that reads the card of other as soon as something is raised on it, that of code until then."""
    card = joined_card((code[0], other[0]))
    if values_of(code) != values_of(other):
        raise Unfit()
    labels = []
    for first in code[1]:
        labels.append(first)
        labels.extend(other[1][1:])
    return made(card, tuple(labels))


def inside(code, outer):
    """Return the code outer on cells whose levels are written by code."""
    tops, names = outer
    card = joined_card([code[0]] * len(tops))
    many = tops[0] + 1
    if tops != tops[:1] * len(tops) or values_of(code) != tuple(range(many)) or code[1][0] != 0:
        raise Unfit()
    places = [0]
    for _ in tops:
        places = [
            None if place is None or level is None else place * many + level for place in places for level in code[1]
        ]
    return made(card, tuple([None if place is None else names[place] for place in places]))


def lifted(code, card):
    """Return the code on a card with more cells, or with greater tops."""
    inner, labels = code
    many = len(inner)
    if len(card) < many or not all([top <= higher for top, higher in zip(inner, card)]):
        raise Unfit()
    known = {state: name for state, name in zip(states(inner), labels)}
    # A state of the elder card is told by its own cells, the further ones being empty.
    return made(card, tuple([
        known[state[:many]] if is_state(inner, state[:many]) and not any(state[many:]) else None
        for state in states(card)
    ]))


def first_strength(code):
    """Return how many values can surely be written, if the first one may be the one read, and has to rise."""
    card, labels = code
    behind_empty = list(range(1, len(labels)))
    return rank_at(labels, behind_empty, strengths(code), values_of(code))
