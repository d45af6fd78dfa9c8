"""Groups: rows of remainders that are added item by item, and the characters that kill some of them."""

from math import lcm

from onlyhigher.bounds import MAX_MODULI, MAX_ORDER
from onlyhigher.cards import is_state
from onlyhigher.values import is_integer


def group_error(value):
    """Return None for a group, otherwise the first fault of value."""
    if not isinstance(value, tuple) or not 1 <= len(value) <= MAX_MODULI:
        return "form"
    order = 1
    for place, modulus in enumerate(value):
        if not is_integer(modulus) or not 2 <= modulus <= MAX_ORDER:
            return ("modulus", place)
        order = order * modulus
    if order > MAX_ORDER:
        return "many"
    return None


def group_members(group):
    """Return the ascending tuple of all members of the group."""
    rows = [()]
    for modulus in group:
        rows = [row + (item,) for row in rows for item in range(modulus)]
    return tuple(rows)


def is_member(group, value):
    # A member has the form of a state whose tops are one less than the moduli.
    return is_state(tuple([modulus - 1 for modulus in group]), value)


def zero_of(group):
    return (0,) * len(group)


def added(group, one, other):
    return tuple([(left + right) % modulus for left, right, modulus in zip(one, other, group)])


def times(group, member, count):
    return tuple([item * count % modulus for item, modulus in zip(member, group)])


def summed(group, marks, counts):
    """Return the sum of the marks, each times its count."""
    total = zero_of(group)
    for mark, count in zip(marks, counts):
        total = added(group, total, times(group, mark, count))
    return total


def span(group, some):
    """Return the ascending tuple of all sums of items of some."""
    found = [zero_of(group)]
    for member in some:
        if member not in found:
            found = widened(group, found, member)
    return tuple(sorted(found))


def widened(group, found, member):
    """Return what a span, found, becomes by one more member."""
    wider = list(found)
    multiple = member
    # From the first multiple on that is in found, all that would be added is there already.
    while multiple not in found:
        wider = wider + [added(group, multiple, item) for item in found]
        multiple = added(group, multiple, member)
    return wider


def kills(group, character, member):
    """Tell whether the character kills the member."""
    multiple = 1
    for modulus in group:
        multiple = lcm(multiple, modulus)
    total = 0
    for ask, item, modulus in zip(character, member, group):
        total = total + ask * item * (multiple // modulus)
    return total % multiple == 0


def characters(group, some):
    """Return the ascending tuple of all characters that kill each item of some."""
    unlike = sorted(set(some))
    # A character has the form of a member.
    return tuple([row for row in group_members(group) if all([kills(group, row, member) for member in unlike])])
