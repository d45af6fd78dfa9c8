"""How many values are written on the mean, if values come by shares."""

from math import gcd, lcm

from onlyhigher.bounds import MAX_WEIGHT
from onlyhigher.cards import places_above, states
from onlyhigher.codes import asked_place, values_of
from onlyhigher.plays import best_state
from onlyhigher.strengths import strengths
from onlyhigher.values import is_integer, is_value

# In what follows a fraction is a pair of integers, above and below, in least terms.


def shares_error(code, value):
    """Return None for shares of the code, otherwise the first fault of value."""
    if not isinstance(value, tuple):
        return "form"
    for place, item in enumerate(value):
        if not is_share(item):
            return ("share", place)
    if tuple([item[0] for item in value]) != values_of(code):
        return "values"
    return None


def is_share(value):
    if not isinstance(value, tuple) or len(value) != 2:
        return False
    return is_value(value[0]) and is_integer(value[1]) and 1 <= value[1] <= MAX_WEIGHT


def least_terms(above, below):
    divisor = gcd(above, below)
    return (above // divisor, below // divisor)


def means(code, shares):
    """Return the mean of each state, None for a state without label."""
    card, labels = code
    above = places_above(card)
    found = [None] * len(labels)
    # All states above a state stand behind it, so they have their means already.
    for place in reversed(range(len(labels))):
        if labels[place] is not None:
            found[place] = share_sum(shares, labels[place], best_numbers(labels, above[place], found))
    return tuple(found)


def best_numbers(labels, places, numbers):
    """Return, for each label of the states at places, the greatest of the fractions in numbers of such a state."""
    best = {}
    for at in places:
        name = labels[at]
        if name is not None and (name not in best or is_less(best[name], numbers[at])):
            best[name] = numbers[at]
    return best


def is_less(one, other):
    return one[0] * other[1] < other[0] * one[1]


def share_sum(shares, read, behind):
    """Return the mean number of writes at a state that reads read.

    behind has, for each value that can be written there, the mean number of writes behind it.
    """
    written = [(weight, behind[value]) for value, weight in shares if value != read and value in behind]
    common = 1
    for _, number in written:
        common = lcm(common, number[1])
    above = sum([weight * (common + number[0] * (common // number[1])) for weight, number in written])
    return least_terms(above, common * weight_beside(shares, read))


def weight_beside(shares, read):
    """Return the sum of the weights of all values but read."""
    return sum([weight for value, weight in shares if value != read])


def means_hold(code, shares, value):
    """Tell whether value is the means of the code."""
    if not isinstance(value, tuple) or not all([item is None or is_pair_of_integers(item) for item in value]):
        return False
    return value == means(code, shares)


def is_pair_of_integers(value):
    return isinstance(value, tuple) and len(value) == 2 and is_integer(value[0]) and is_integer(value[1])


def mean_state(code, shares, state, value):
    """Return the state above labelled value of the greatest mean, the nearest one, the least one."""
    asked_place(code, state, value)
    return best_state(code, mean_ranks(code, shares), state, value)


def mean_ranks(code, shares):
    """Return integers that are in the order of the means, None for a state without label."""
    found = means(code, shares)
    common = 1
    for number in found:
        if number is not None:
            common = lcm(common, number[1])
    return [None if number is None else number[0] * (common // number[1]) for number in found]


def best_places(code, ranks):
    """Return, for each state, a dict: for each value the place of the state that best_state tells by the ranks."""
    card, labels = code
    totals = [sum(levels) for levels in states(card)]
    found = []
    for places in places_above(card):
        best = {}
        for at in places:
            name = labels[at]
            # Of states above one state, those with the fewest rises are those with the least levels.
            if name is not None and (name not in best or (-ranks[at], totals[at], at) < best[name]):
                best[name] = (-ranks[at], totals[at], at)
        found.append({name: least[2] for name, least in best.items()})
    return found


def plan_means(code, shares):
    """Return the mean numbers of writes if the writer goes to the told state each time."""
    labels = code[1]
    goals = best_places(code, strengths(code))
    found = [None] * len(labels)
    for place in reversed(range(len(labels))):
        if labels[place] is not None:
            behind = {value: found[at] for value, at in goals[place].items()}
            found[place] = share_sum(shares, labels[place], behind)
    return tuple(found)


def spread(code, shares):
    """Return how likely each number of writes from the empty state on is, by the plan of mean_state."""
    goals = best_places(code, mean_ranks(code, shares))
    # Every share is so many of this part, which spares us fractions on the way.
    common = 1
    for value, _ in shares:
        common = lcm(common, weight_beside(shares, value))
    rows = []
    chances, whole, writes = {0: 1}, 1, 0
    while chances:
        ended, chances = chances_behind(code[1], shares, goals, chances, common)
        whole = whole * common
        if ended > 0:
            rows.append((writes, least_terms(ended, whole)))
        writes = writes + 1
    return tuple(rows)


def chances_behind(labels, shares, goals, chances, common):
    """Return a pair: the chance that now comes what can't be written, and a dict of the chances of the places then.

    chances has the chance of each place where the writer can be now. Those that are returned are told in
    parts common times smaller.
    """
    ended, further = 0, {}
    for place, chance in chances.items():
        read = labels[place]
        part = chance * (common // weight_beside(shares, read))
        for value, weight in shares:
            at = goals[place].get(value)
            if value != read and at is None:
                ended = ended + part * weight
            elif value != read:
                further[at] = further.get(at, 0) + part * weight
    return (ended, further)
