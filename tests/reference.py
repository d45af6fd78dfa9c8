"""The definitions of the document, word by word and without any care for time; and small codes to try them on."""

import functools
import itertools
import random


def levels(card):
    return list(itertools.product(*[range(top + 1) for top in card]))


def table(code):
    return dict(zip(levels(code[0]), code[1]))


def values(code):
    """The values of a code, in the order in which they stand first."""
    return list(dict.fromkeys(name for name in code[1] if name is not None))


def above(state, other):
    return state != other and all(low <= high for low, high in zip(state, other))


def ways(code, state, value):
    """The states above state that are labelled with value."""
    return [other for other, name in table(code).items() if name == value and above(state, other)]


def can_write(code, state, many, lot):
    """[B2]: many values can be written one behind another, whatever a foe names of the lot."""
    return many == 0 or all(
        any(can_write(code, other, many - 1, lot) for other in ways(code, state, value))
        for value in lot if value != table(code)[state])


def strength_at(code, state, lot):
    if table(code)[state] is None:
        return None
    many = 0
    while can_write(code, state, many + 1, lot):
        many += 1
    return many


def ranks(code, lot=None):
    lot = values(code) if lot is None else lot
    return tuple(strength_at(code, state, lot) for state in levels(code[0]))


def fits(code, row):
    """[B3]: the three lines that tell the ranks."""
    if not isinstance(row, tuple) or len(row) != len(code[1]):
        return False
    items, names = dict(zip(levels(code[0]), row)), table(code)
    for state, name in names.items():
        rank = items[state]
        if name is None:
            if rank is not None:
                return False
            continue
        if not isinstance(rank, int) or isinstance(rank, bool) or rank < 0:
            return False
        others = [value for value in values(code) if value != name]
        over = [other for other in items if above(state, other)]
        below, reached = [], []
        for value in others:
            found = [items[other] for other in over if names[other] == value]
            below.append(any(item is not None and item >= rank - 1 for item in found))
            reached.append(any(item is not None and item >= rank for item in found))
        if rank >= 1 and not all(below) or all(reached):
            return False
    return True


def can_afford(code, state, many, most):
    """[B8]: many values can be written, whatever the foe names, with at most so many rises in all."""
    if many == 0:
        return True
    return all(
        any(
            sum(other) - sum(state) <= most and can_afford(code, other, many - 1, most - sum(other) + sum(state))
            for other in ways(code, state, value))
        for value in values(code) if value != table(code)[state])


def least_rises(code, state, many):
    for most in range(sum(code[0]) + 1):
        if can_afford(code, state, many, most):
            return most
    return None


def all_codes(card, names):
    """All codes of the card with labels of names or none."""
    for labels in itertools.product(list(names) + [None], repeat=len(levels(card))):
        if labels[0] is not None and len(set(labels) - {None}) > 1:
            yield card, labels


def some_codes(card, names, many, seed, blanks=1):
    """As many codes of the card, picked by the seed, with labels of names or, as often as blanks, none."""
    pick = random.Random(seed)
    found = []
    while len(found) < many:
        labels = tuple(pick.choice(list(names) + [None] * blanks) for _ in levels(card))
        if labels[0] is not None and len(set(labels) - {None}) > 1:
            found.append((card, labels))
    return found


def small_codes():
    """Codes of many forms, all small enough for the definitions here."""
    yield from all_codes((1,), [0, 1])
    yield from all_codes((2,), [0, "a", (3,)])
    yield from all_codes((1, 1), [0, 1, 2])
    yield from all_codes((3,), ["a", "b"])
    for seed, (card, names) in enumerate([
            ((1, 2), [0, 1]), ((2, 1), [0, 1, 2]), ((2, 2), ["a", "b", "c"]), ((2, 2), [0, 1]), ((1, 1, 1), [0, 1, 2, 3]),
            ((1, 1, 1), [5, "x"]), ((1, 3), [(0, 0), (0, 1), (1, 0)]), ((5,), [0, 1]), ((1, 1, 2), [0, 1, 2])]):
        yield from some_codes(card, names, 25, seed)
        yield from some_codes(card, names, 10, seed + 100, blanks=0)


def sums_labels(card, order):
    """The labels of the card by the sums of the levels, each times the place of its cell and 1."""
    return tuple(sum((at + 1) * level for at, level in enumerate(state)) % order for state in levels(card))


# Two, eight and sixty-four values on cards of 512 states, and many states without a label.
GREAT = [
    ((7, 7, 7), sums_labels((7, 7, 7), 2)),
    ((7, 7, 7), sums_labels((7, 7, 7), 8)),
    ((7, 7, 7), tuple(range(64)) * 8),
    ((1, 1, 1, 3, 3, 3), tuple(at % 5 if at % 3 == 0 else None for at in range(512))),
]


def brute_sum(group, marks, counts):
    return tuple(
        sum(mark[at] * count for mark, count in zip(marks, counts)) % modulus for at, modulus in enumerate(group))


def brute_span(group, some):
    """[C3], with each item taken up to so many times as there are elements."""
    found = {(0,) * len(group)}
    while True:
        wider = found | {brute_sum(group, (one, other), (1, 1)) for one in found for other in some}
        if wider == found:
            return tuple(sorted(found))
        found = wider


def brute_kills(group, character, member):
    """[C4], by fractions of a turn: each place turns by item and character over the modulus."""
    whole = 1
    for modulus in group:
        whole *= modulus
    turn = sum(one * other * (whole // modulus) for one, other, modulus in zip(character, member, group))
    return turn % whole == 0


def all_groups(order):
    """All groups of at most this order."""
    for many in (1, 2, 3):
        for group in itertools.product(range(2, order + 1), repeat=many):
            whole = 1
            for modulus in group:
                whole *= modulus
            if whole <= order:
                yield group


def brute_counts(room):
    """All counts that are not all 0 and nowhere greater than the room."""
    return [counts for counts in itertools.product(*[range(left + 1) for left in room]) if any(counts)]


@functools.lru_cache(maxsize=None)
def room_can(group, marks, room, many):
    """[C7]: the room strength of the room is many or more."""
    if many == 0:
        return True
    zero = (0,) * len(group)
    for member in itertools.product(*[range(modulus) for modulus in group]):
        ways_there = [counts for counts in brute_counts(room) if brute_sum(group, marks, counts) == member]
        behind = [tuple(left - count for left, count in zip(room, counts)) for counts in ways_there]
        if member != zero and not any(room_can(group, marks, left, many - 1) for left in behind):
            return False
    return True


def room_strength(group, marks, room):
    many = 0
    while room_can(group, marks, room, many + 1):
        many += 1
    return many


def bars(group, marks, room, member, value):
    """[C9]: value is a bar."""
    def is_element(item):
        return isinstance(item, tuple) and len(item) == len(group) and all(
            isinstance(part, int) and not isinstance(part, bool) and 0 <= part < modulus
            for part, modulus in zip(item, group))

    if not isinstance(value, tuple) or len(value) != 2:
        return False
    if value[0] == "character":
        return is_element(value[1]) and not brute_kills(group, value[1], member) and all(
            brute_kills(group, value[1], mark) for mark, left in zip(marks, room) if left >= 1)
    rows = value[1]
    if value[0] != "sums" or not isinstance(rows, tuple) or len(rows) != len(marks):
        return False
    for row in rows:
        if not isinstance(row, tuple) or not all(is_element(item) for item in row) or list(row) != sorted(set(row)):
            return False
    for mark, left, ahead, row in zip(marks, room, (((0,) * len(group),),) + rows, rows):
        for item in ahead:
            for count in range(left + 1):
                if brute_sum(group, (item, mark), (1, count)) not in row:
                    return False
    return member not in rows[-1]


def some_sums(seed, many=60):
    """Triples of a card, a group and marks, one for each cell, picked by the seed."""
    pick = random.Random(seed)
    cards = [(1,), (3,), (1, 1), (2, 1), (1, 3), (1, 1, 1), (2, 2), (2, 1, 1), (1, 1, 1, 1), (2, 1, 2)]
    groups = [(2,), (3,), (4,), (2, 2), (5,), (6,), (2, 3), (2, 4), (2, 2, 2), (8,), (3, 3)]
    for _ in range(many):
        card, group = pick.choice(cards), pick.choice(groups)
        yield card, group, tuple(tuple(pick.randrange(modulus) for modulus in group) for _ in card)


def all_pairs(code, other):
    """[D1]: all pairs of labelled states with one label, in order."""
    return [
        (s, t) for s, name in table(code).items() for t, read in table(other).items()
        if name is not None and name == read]


def answers(code, other, pair):
    """For each state that other may go to with another value: the pairs that answer it with code."""
    s, t = pair
    own, names = table(code), table(other)
    return [
        [(s2, t2) for s2 in own if own[s2] == names[t2] and above(s, s2)]
        for t2 in names if above(t, t2) and names[t2] is not None and names[t2] != names[t]]


def is_closed(code, other, lot):
    """[D2]: the lot of pairs is closed."""
    return all(any(pair in lot for pair in row) for item in lot for row in answers(code, other, item))


def brute_rounds(code, other):
    """[D4]: the round of each struck pair, round by round."""
    rounds, many = {}, 0
    while True:
        many += 1
        fresh = [
            pair for pair in all_pairs(code, other) if pair not in rounds and any(
                all(item in rounds for item in row) for row in answers(code, other, pair))]
        if not fresh:
            return rounds
        rounds.update({pair: many for pair in fresh})


def strikes_fit(code, other, value):
    """[D5], for a tuple of triples of states and integers."""
    pairs = [item[:2] for item in value]
    if not set(pairs) <= set(all_pairs(code, other)) or pairs != sorted(set(pairs)):
        return False
    rounds = {item[:2]: item[2] for item in value}
    for pair, many in rounds.items():
        if many < 1 or not any(
                all(rounds.get(item, many) < many for item in row) for row in answers(code, other, pair)):
            return False
    return ((0,) * len(code[0]), (0,) * len(other[0])) in rounds


def like_codes():
    """Pairs of codes with the same values, whose empty states read one of them."""
    pools = {}
    for seed, (card, names) in enumerate([
            ((1,), [0, 1]), ((2,), [0, 1]), ((3,), [0, 1]), ((1, 1), [0, 1]), ((2, 1), [0, 1]), ((1, 1, 1), [0, 1]),
            ((2, 2), [0, 1]), ((2,), ["a", (1,), 3]), ((4,), ["a", (1,), 3]), ((1, 1), ["a", (1,), 3]),
            ((1, 2), ["a", (1,), 3]), ((1, 1, 1), ["a", (1,), 3])]):
        for blanks in (0, 1):
            for code in some_codes(card, names, 14, seed + 31 * blanks, blanks):
                pools.setdefault((frozenset(values(code)), code[1][0]), []).append(code)
    pick = random.Random(5)
    for pool in pools.values():
        for code in pool:
            yield code, pick.choice(pool)
            yield code, pick.choice(pool)


# All cards of at most 9 states.
SMALL_CARDS = [(top,) for top in range(1, 8)] + [(1, 1), (1, 2), (2, 1), (1, 3), (3, 1), (2, 2), (1, 1, 1)]


@functools.lru_cache(maxsize=None)
def hope(card, many, labels, state, value):
    """[E4]: the hopeful strength of a state and a value, for small cards."""
    names = dict(zip(levels(card), labels))

    def can(here, read, writes):
        return writes == 0 or all(
            any(can(over, value, writes - 1) for over in names
                if above(here, over) and (names[over] == "open" or names[over] == value))
            for value in range(many) if value != read)

    writes = 0
    while can(state, value, writes + 1):
        writes += 1
    return writes


def is_tree(card, many, least, labels, value):
    """[E5]: value is a tree for these labels."""
    if value is None:
        return hope(card, many, labels, (0,) * len(card), 0) < least
    if not isinstance(value, tuple) or len(value) != 2 or value[0] not in levels(card):
        return False
    place, nodes = levels(card).index(value[0]), value[1]
    if any(isinstance(level, bool) for level in value[0]) or labels[place] != "open":
        return False
    if not isinstance(nodes, tuple) or len(nodes) != many + 1:
        return False
    return all(
        is_tree(card, many, least, labels[:place] + (name,) + labels[place + 1:], node)
        for name, node in zip(list(range(many)) + [None], nodes))


def open_labels(card):
    return (0,) + ("open",) * (len(levels(card)) - 1)


@functools.lru_cache(maxsize=None)
def greatest_strength(card, many):
    """[E1]: the greatest strength of a code of the card with the values 0 to many - 1, tried one by one; 0 if none."""
    best = 0
    for labels in itertools.product(list(range(many)) + [None], repeat=len(levels(card)) - 1):
        code = (card, (0,) + labels)
        if set(values(code)) == set(range(many)):
            while can_write(code, (0,) * len(card), best + 1, range(many)):
                best += 1
    return best


def order_key(value):
    """[A4]: the order of values."""
    def plain(item):
        return (1, 0, item) if isinstance(item, str) else (0, item, "")

    return (1, [plain(item) for item in value]) if isinstance(value, tuple) else (0, [plain(value)])


def kind_fits(code, kind):
    """[F1]: the kind fits the code."""
    names = values(code)
    if kind in ("name", "buffer"):
        return all(isinstance(name, tuple) for name in names) and len({len(name) for name in names}) == 1
    return kind == "any" or set(names) == set(range(len(names)))


def asked_set(code, kind, value):
    """[F1]: what is asked behind a value."""
    names = values(code)
    if kind == "any":
        return set(names) - {value}
    if kind == "name":
        rows = itertools.product(*[{name[at] for name in names} for at in range(len(value))])
        return {row for row in rows if sum(one != other for one, other in zip(row, value)) == 1}
    if kind == "buffer":
        return {value[1:] + (item,) for name in names for item in name} - {value}
    up = value + 1 if value + 1 in names else 0
    down = value - 1 if value > 0 else len(names) - 1
    return {up} if kind == "up" else {up, down}


def greatest(can):
    """The greatest number from 0 on up to which can tells True."""
    many = 0
    while can(many + 1):
        many += 1
    return many


def kind_ranks(code, kind):
    """[F3]: the strengths by the kind."""
    asked = {name: asked_set(code, kind, name) for name in values(code)}

    @functools.lru_cache(maxsize=None)
    def can(state, many):
        return many == 0 or all(
            any(can(other, many - 1) for other in ways(code, state, value)) for value in asked[table(code)[state]])

    return tuple(
        None if name is None else greatest(lambda many, at=state: can(at, many)) for state, name in table(code).items())


def kind_codes():
    """Codes that fit the kinds, each with the kinds that fit it."""
    rows = [
        ((4,), [(0,), (1,), ("a",)]), ((1, 2), [("x",), (5,)]), ((5,), [(0, 0), (0, 1), (1, 0), (1, 1)]),
        ((2, 2), [(0, 0), (0, 1), (1, 0)]), ((2, 2), [(0, "a"), (0, "b"), (1, "a")]), ((1, 1, 1), [(0, 1, 0), (1, 0, 1), (1, 1, 0)]),
        ((2, 3), [(0, 0, 0), (0, 0, 1), (0, 1, 0), (1, 0, 0)]), ((2, 2), [(0, 0, 0, 0), (0, 0, 0, 1), (1, 0, 0, 0), (0, 1, 0, 1)]),
        ((3,), [0, 1]), ((2, 2), [0, 1]), ((2, 2), [0, 1, 2]), ((1, 1, 2), [0, 1, 2]), ((3, 2), [0, 1, 2, 3]), ((7,), [0, 1, 2, 3, 4]),
        ((2, 2), [5, "a", (0,)])]
    for seed, (card, names) in enumerate(rows):
        for blanks in (0, 1):
            for code in some_codes(card, names, 8, seed + 70 * blanks, blanks):
                yield code, [kind for kind in ("any", "name", "buffer", "up", "both") if kind_fits(code, kind)]


def one_rise(state, other):
    return above(state, other) and sum(other) - sum(state) == 1


def safe_ways(code, state, value):
    """[G1]: all safe ways from state for value."""
    names = table(code)

    def further(way):
        if names[way[-1]] == value:
            yield way
        for other in names:
            if one_rise(way[-1], other) and names[other] is not None and names[other] in (names[state], value):
                yield from further(way + (other,))

    return list(further((state,)))


def safe_ranks(code):
    """[G2]: the safe strengths."""
    found = {
        (state, value): safe_ways(code, state, value)
        for state, name in table(code).items() for value in values(code) if name is not None and name != value}

    @functools.lru_cache(maxsize=None)
    def can(state, many):
        return many == 0 or all(
            any(all(can(other, many - 1) for other in way) for way in found[state, value])
            for value in values(code) if value != table(code)[state])

    return tuple(
        None if name is None else greatest(lambda many, at=state: can(at, many)) for state, name in table(code).items())


def way_by(order, state, other):
    """[G6]: the way by an order of the cells."""
    way = [state]
    for cell in order:
        while way[-1][cell] < other[cell]:
            way.append(way[-1][:cell] + (way[-1][cell] + 1,) + way[-1][cell + 1:])
    return tuple(way)


def orders_that_do(code):
    """[G6]: the safe orders."""
    names, strong = table(code), dict(zip(levels(code[0]), ranks(code)))

    def does(order, state, value):
        found = ways(code, state, value)
        best = [other for other in found if strong[other] == max(strong[goal] for goal in found)]
        return not found or any(
            all(names[step] is not None and names[step] in (names[state], value) for step in way_by(order, state, other))
            for other in best)

    return tuple(
        order for order in itertools.permutations(range(len(code[0])))
        if all(does(order, state, value) for state in names for value in values(code)
               if names[state] is not None and names[state] != value))


def ball(card, state, slips):
    """[H1]: the ball of a state."""
    return [
        other for other in levels(card)
        if (other == state or above(state, other)) and sum(other) - sum(state) <= slips]


def first_crowded(code, slips):
    """[H2]: the first pair with a common state in their balls."""
    card, names = code[0], table(code)
    for s, t in itertools.combinations(levels(card), 2):
        if None not in (names[s], names[t]) and names[s] != names[t]:
            if set(ball(card, s, slips)) & set(ball(card, t, slips)):
                return s, t
    return None


def turn_ranks(code, slips):
    """[H3]: the strengths under so many slips behind each write."""
    names = table(code)

    @functools.lru_cache(maxsize=None)
    def can(state, many):
        return many == 0 or all(
            any(can(other, many - 1) for other in ways(code, slipped, value))
            for slipped in ball(code[0], state, slips) for value in values(code) if value != names[state])

    return tuple(
        None if name is None else greatest(lambda many, at=state: can(at, many)) for state, name in names.items())


def all_ranks(code, slips):
    """[H4]: the strengths with so many slips left in all."""
    names = table(code)

    @functools.lru_cache(maxsize=None)
    def can(state, left, many):
        return many == 0 or all(
            any(can(other, left - sum(slipped) + sum(state), many - 1) for other in ways(code, slipped, value))
            for slipped in ball(code[0], state, left) for value in values(code) if value != names[state])

    return tuple(
        tuple(None if name is None else greatest(lambda many, at=state, rest=left: can(at, rest, many))
              for state, name in names.items())
        for left in range(slips + 1))


def stuck_ranks(code, cells):
    """[H5]: the strengths with these cells stuck."""
    names = table(code)

    @functools.lru_cache(maxsize=None)
    def can(state, many):
        return many == 0 or all(
            any(can(other, many - 1) for other in ways(code, state, value)
                if all(state[cell] == other[cell] for cell in cells))
            for value in values(code) if value != names[state])

    return tuple(
        None if name is None else greatest(lambda many, at=state: can(at, many)) for state, name in names.items())


def spaced(card, gap, many):
    """The code that labels each state whose levels add up to a multiple of gap, with many values by turns."""
    return card, tuple(
        sum(state) // gap % many if sum(state) % gap == 0 else None for state in levels(card))


def sparse_codes():
    """Small codes with few labels, most of which withstand some slips."""
    rows = [
        ((5,), [0, 1]), ((7,), [0, 1]), ((7,), ["a", "b", "c"]), ((2, 4), [0, 1]), ((3, 3), [0, 1]), ((2, 2, 1), [0, 1]),
        ((3, 3), ["a", "b", "c"]), ((1, 5), [0, 1])]
    for seed, (card, names) in enumerate(rows):
        for blanks in (2, 4, 8):
            yield from some_codes(card, names, 6, seed + 90 * blanks, blanks)
    for card in ((7,), (2, 4), (3, 3), (2, 2, 2), (1, 1, 3), (7, 3)):
        for gap in (2, 3, 4):
            for many in (2, 3):
                code = spaced(card, gap, many)
                if len(set(code[1]) - {None}) == many:
                    yield code
    # The labels of states that lie near one another are alike.
    yield (7,), (0, 0, 0, None, 1, 1, None, 0)
    yield (3, 3), tuple(0 if sum(state) < 2 else 1 if sum(state) > 4 else None for state in levels((3, 3)))
    yield (2, 4), (0, None, 1, None, 0, None, None, 1, None, 0) + (None,) * 5
