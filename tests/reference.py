"""The definitions of the document, word by word and without any care for time; and small codes to try them on."""

import itertools
import random


def levels(card):
    return list(itertools.product(*[range(top + 1) for top in card]))


def table(code):
    return dict(zip(levels(code[0]), code[1]))


def values(code):
    """The values of a code, in the order in which they stand first."""
    return list(dict.fromkeys(name for name in code[1] if name is not None))


def above(state, other):
    return state != other and all(low <= high for low, high in zip(state, other))


def ways(code, state, value):
    """The states above state that are labelled with value."""
    return [other for other, name in table(code).items() if name == value and above(state, other)]


def can_write(code, state, many, lot):
    """[B2]: many values can be written one behind another, whatever a foe names of the lot."""
    return many == 0 or all(
        any(can_write(code, other, many - 1, lot) for other in ways(code, state, value))
        for value in lot if value != table(code)[state])


def strength_at(code, state, lot):
    if table(code)[state] is None:
        return None
    many = 0
    while can_write(code, state, many + 1, lot):
        many += 1
    return many


def ranks(code, lot=None):
    lot = values(code) if lot is None else lot
    return tuple(strength_at(code, state, lot) for state in levels(code[0]))


def fits(code, row):
    """[B3]: the three lines that tell the ranks."""
    if not isinstance(row, tuple) or len(row) != len(code[1]):
        return False
    items, names = dict(zip(levels(code[0]), row)), table(code)
    for state, name in names.items():
        rank = items[state]
        if name is None:
            if rank is not None:
                return False
            continue
        if not isinstance(rank, int) or isinstance(rank, bool) or rank < 0:
            return False
        others = [value for value in values(code) if value != name]
        over = [other for other in items if above(state, other)]
        below, reached = [], []
        for value in others:
            found = [items[other] for other in over if names[other] == value]
            below.append(any(item is not None and item >= rank - 1 for item in found))
            reached.append(any(item is not None and item >= rank for item in found))
        if rank >= 1 and not all(below) or all(reached):
            return False
    return True


def can_afford(code, state, many, most):
    """[B8]: many values can be written, whatever the foe names, with at most so many rises in all."""
    if many == 0:
        return True
    return all(
        any(
            sum(other) - sum(state) <= most and can_afford(code, other, many - 1, most - sum(other) + sum(state))
            for other in ways(code, state, value))
        for value in values(code) if value != table(code)[state])


def least_rises(code, state, many):
    for most in range(sum(code[0]) + 1):
        if can_afford(code, state, many, most):
            return most
    return None


def all_codes(card, names):
    """All codes of the card with labels of names or none."""
    for labels in itertools.product(list(names) + [None], repeat=len(levels(card))):
        if labels[0] is not None and len(set(labels) - {None}) > 1:
            yield card, labels


def some_codes(card, names, many, seed, blanks=1):
    """As many codes of the card, picked by the seed, with labels of names or, as often as blanks, none."""
    pick = random.Random(seed)
    found = []
    while len(found) < many:
        labels = tuple(pick.choice(list(names) + [None] * blanks) for _ in levels(card))
        if labels[0] is not None and len(set(labels) - {None}) > 1:
            found.append((card, labels))
    return found


def small_codes():
    """Codes of many forms, all small enough for the definitions here."""
    yield from all_codes((1,), [0, 1])
    yield from all_codes((2,), [0, "a", (3,)])
    yield from all_codes((1, 1), [0, 1, 2])
    yield from all_codes((3,), ["a", "b"])
    for seed, (card, names) in enumerate([
            ((1, 2), [0, 1]), ((2, 1), [0, 1, 2]), ((2, 2), ["a", "b", "c"]), ((2, 2), [0, 1]), ((1, 1, 1), [0, 1, 2, 3]),
            ((1, 1, 1), [5, "x"]), ((1, 3), [(0, 0), (0, 1), (1, 0)]), ((5,), [0, 1]), ((1, 1, 2), [0, 1, 2])]):
        yield from some_codes(card, names, 25, seed)
        yield from some_codes(card, names, 10, seed + 100, blanks=0)


def sums_labels(card, order):
    """The labels of the card by the sums of the levels, each times the place of its cell and 1."""
    return tuple(sum((at + 1) * level for at, level in enumerate(state)) % order for state in levels(card))


# Two, eight and sixty-four values on cards of 512 states, and many states without a label.
GREAT = [
    ((7, 7, 7), sums_labels((7, 7, 7), 2)),
    ((7, 7, 7), sums_labels((7, 7, 7), 8)),
    ((7, 7, 7), tuple(range(64)) * 8),
    ((1, 1, 1, 3, 3, 3), tuple(at % 5 if at % 3 == 0 else None for at in range(512))),
]


def brute_sum(group, marks, counts):
    return tuple(
        sum(mark[at] * count for mark, count in zip(marks, counts)) % modulus for at, modulus in enumerate(group))


def brute_span(group, some):
    """[C3], with each item taken up to so many times as there are elements."""
    found = {(0,) * len(group)}
    while True:
        wider = found | {brute_sum(group, (one, other), (1, 1)) for one in found for other in some}
        if wider == found:
            return tuple(sorted(found))
        found = wider


def brute_kills(group, character, member):
    """[C4], by fractions of a turn: each place turns by item and character over the modulus."""
    whole = 1
    for modulus in group:
        whole *= modulus
    turn = sum(one * other * (whole // modulus) for one, other, modulus in zip(character, member, group))
    return turn % whole == 0


def all_groups(order):
    """All groups of at most this order."""
    for many in (1, 2, 3):
        for group in itertools.product(range(2, order + 1), repeat=many):
            whole = 1
            for modulus in group:
                whole *= modulus
            if whole <= order:
                yield group
