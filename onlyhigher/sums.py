"""Codes whose labels are sums of the levels, each level as often as the mark of its cell tells."""

from onlyhigher.cards import card_error, states
from onlyhigher.errors import BadCard, Unfit
from onlyhigher.groups import group_members, is_member, summed
from onlyhigher.strengths import strengths_among


def sums_code(card, group, marks):
    """Return the code of the card that labels each state with its sum."""
    fault = card_error(card)
    if fault is not None:
        raise BadCard(fault)
    if not isinstance(marks, tuple) or len(marks) != len(card):
        raise Unfit()
    if not all([is_member(group, mark) for mark in marks]):
        raise Unfit()
    labels = sums_below(group, marks, card)
    if len(set(labels)) < len(group_members(group)):
        raise Unfit()
    return (card, labels)


def sums_below(group, marks, room):
    """Return the sums of all counts that are nowhere greater than the room, in the order of counts."""
    return tuple([summed(group, marks, counts) for counts in states(room)])


def makes(group, marks, room):
    """Return the ascending tuple of all members that the room makes."""
    # The first counts are all 0.
    return tuple(sorted(set(sums_below(group, marks, room)[1:])))


def ways_to(group, marks, room, member):
    """Return the ascending tuple of all counts by which the room makes the member."""
    sums = sums_below(group, marks, room)
    return tuple([counts for counts, total in list(zip(states(room), sums))[1:] if total == member])


def room_strengths(card, group, marks):
    """Return the room strengths of all states of the card, each taken as a room."""
    # A write leaves the room of the state to which it goes, and what it has to add does not hang on the sum
    # that was read, but on the difference alone: so a room is as strong as the state that has it left.
    ranks = strengths_among((card, sums_below(group, marks, card)), group_members(group))
    # The room of the first state is the last state, and so on.
    return ranks[::-1]
