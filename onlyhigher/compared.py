"""Whether one code can do whatever another one does, and the papers that show that it can or can't."""

from onlyhigher.cards import is_state, next_places, place_of, places_above, states
from onlyhigher.codes import values_of
from onlyhigher.errors import Unfit
from onlyhigher.values import is_integer

# In this file a table has a row for each state of other, in order, and in it an item for each state of
# code: the round in which the pair of both is struck, 0 if they are no pair. What is never struck has
# a number greater than each round.


def follows(code, other):
    """Return the ascending tuple of the pairs of the greatest closed lot."""
    require_comparable(code, other)
    never = past_all_rounds(other)
    return tuple([(state, behind) for state, behind, told in told_pairs(code, other) if told == never])


def never_weaker(code, other):
    """Tell whether the pair of the empty states is in the greatest closed lot."""
    require_comparable(code, other)
    return strike_table(code, other)[0][0] == past_all_rounds(other)


def strikes(code, other):
    """Return the ascending tuple of the struck pairs, each with the round in which it is struck."""
    require_comparable(code, other)
    never = past_all_rounds(other)
    return tuple([triple for triple in told_pairs(code, other) if triple[2] < never])


def require_comparable(code, other):
    if values_of(code) != values_of(other) or code[1][0] != other[1][0]:
        raise Unfit()


def past_all_rounds(other):
    # Each round goes back to one with a state of other further up, so there are not more of them than states.
    return len(other[1]) + 1


def told_pairs(code, other):
    """Return all pairs in order, each with what the table has for it."""
    table = strike_table(code, other)
    rows = list(enumerate(states(other[0])))
    return [
        (state, behind, table[at][place])
        for place, state in enumerate(states(code[0]))
        for at, behind in rows
        if table[at][place] > 0
    ]


def strike_table(code, other):
    never = past_all_rounds(other)
    above, risen = places_above(other[0]), next_places(code[0])
    table = [None] * len(other[1])
    worst = [None] * len(other[1])
    # A pair hangs only on pairs with states above its own ones, and these stand behind them.
    for at in reversed(range(len(other[1]))):
        goals = goals_at(other, above, worst, at)
        name = other[1][at]
        table[at] = [
            struck_round(goals, place, never) if read is not None and read == name else 0
            for place, read in enumerate(code[1])
        ]
        worst[at] = greatest_above(risen, table[at])
    return table


def goals_at(other, above, worst, at):
    """Return what worst has for each state above the one at this place that has another label."""
    labels = other[1]
    return [worst[goal] for goal in above[at] if labels[goal] is not None and labels[goal] != labels[at]]


def struck_round(goals, place, never):
    """Return the round of a pair, if goals tell the last rounds of the pairs that answer the writes of other."""
    return min([never] + [1 + last[place] for last in goals])


def greatest_above(risen, row):
    """Return, for each state, the greatest item of the row at the states above it, 0 if there is none."""
    found = [0] * len(row)
    for place in reversed(range(len(row))):
        found[place] = max([max(row[at], found[at]) for at in risen[place]], default=0)
    return found


def pairs_hold(code, other, value):
    """Tell whether value is a closed lot of pairs, ascending, with the pair of the empty states."""
    require_comparable(code, other)
    if not isinstance(value, tuple) or not all([isinstance(item, tuple) and len(item) == 2 for item in value]):
        return False
    if not are_pairs(code, other, value):
        return False
    never = past_all_rounds(other)
    table = empty_table(code, other, 0)
    for state, behind in value:
        table[place_of(other[0], behind)][place_of(code[0], state)] = never
    # The lot is closed if none of its pairs is struck as soon as all other ones are.
    told = next_rounds(code, other, table, value, never)
    return all([last == never for last in told])


def strikes_hold(code, other, value):
    """Tell whether value is a table of struck pairs, with the pair of the empty states."""
    require_comparable(code, other)
    if not isinstance(value, tuple) or not all([is_numbered(item) for item in value]):
        return False
    pairs = [item[:2] for item in value]
    if not are_pairs(code, other, pairs):
        return False
    never = max([item[2] for item in value]) + 1
    table = empty_table(code, other, never)
    for state, behind, told in value:
        table[place_of(other[0], behind)][place_of(code[0], state)] = told
    least = next_rounds(code, other, table, pairs, never)
    return all([first <= item[2] for first, item in zip(least, value)])


def is_numbered(item):
    return isinstance(item, tuple) and len(item) == 3 and is_integer(item[2]) and item[2] >= 1


def are_pairs(code, other, pairs):
    """Tell whether pairs, tuples of two items, are ascending pairs with that of the empty states."""
    for state, behind in pairs:
        if not is_state(code[0], state) or not is_state(other[0], behind):
            return False
        read = code[1][place_of(code[0], state)]
        if read is None or read != other[1][place_of(other[0], behind)]:
            return False
    # No pair is less than that of the empty states.
    if not pairs or sum(pairs[0][0]) + sum(pairs[0][1]) > 0:
        return False
    return all([low < high for low, high in zip(pairs, pairs[1:])])


def empty_table(code, other, number):
    """Return the table in which each pair has this number."""
    return [[number if read is not None and read == name else 0 for read in code[1]] for name in other[1]]


def next_rounds(code, other, table, pairs, never):
    """Return the round in which each of pairs is struck at the earliest, by what the table has for those above."""
    above, risen = places_above(other[0]), next_places(code[0])
    worst = [greatest_above(risen, row) for row in table]
    goals = [goals_at(other, above, worst, at) for at in range(len(table))]
    return [
        struck_round(goals[place_of(other[0], behind)], place_of(code[0], state), never) for state, behind in pairs
    ]
