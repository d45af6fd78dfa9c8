"""Bars: papers that a room does not make a member."""

from onlyhigher.groups import added, characters, is_member, kills, times, zero_of
from onlyhigher.sums import makes


def bar(group, marks, room, member):
    """Return a bar of the member for the room, None if the room makes it."""
    if member in makes(group, marks, room):
        return None
    for character in characters(group, marks_with_room(marks, room)):
        if not kills(group, character, member):
            return ("character", character)
    return ("sums", sum_rows(group, marks, room))


def marks_with_room(marks, room):
    return tuple([mark for mark, left in zip(marks, room) if left > 0])


def sum_rows(group, marks, room):
    """Return, for each cell, the ascending tuple of the sums of all counts that are 0 behind it."""
    found = (zero_of(group),)
    rows = []
    for mark, left in zip(marks, room):
        found = tuple(sorted(set(sums_behind(group, found, mark, left))))
        rows.append(found)
    return tuple(rows)


def sums_behind(group, row, mark, left):
    """Return each sum of an item of the row and the mark, taken up to left times."""
    return [added(group, item, times(group, mark, count)) for item in row for count in range(left + 1)]


def bar_holds(group, marks, room, member, value):
    """Tell whether value is a bar of the member for the room."""
    if not isinstance(value, tuple) or len(value) != 2:
        return False
    kind, paper = value
    if kind == "character":
        return character_holds(group, marks, room, member, paper)
    return kind == "sums" and rows_hold(group, marks, room, member, paper)


def character_holds(group, marks, room, member, character):
    # A character has the form of a member.
    if not is_member(group, character) or kills(group, character, member):
        return False
    return all([kills(group, character, mark) for mark in marks_with_room(marks, room)])


def rows_hold(group, marks, room, member, rows):
    if not isinstance(rows, tuple) or len(rows) != len(marks):
        return False
    ahead = (zero_of(group),)
    for mark, left, row in zip(marks, room, rows):
        if not is_member_row(group, row):
            return False
        if not all([total in row for total in sums_behind(group, ahead, mark, left)]):
            return False
        ahead = row
    return member not in ahead


def is_member_row(group, value):
    """Tell whether value is an ascending tuple of members."""
    if not isinstance(value, tuple) or not all([is_member(group, item) for item in value]):
        return False
    return all([low < high for low, high in zip(value, value[1:])])
