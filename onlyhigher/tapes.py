"""Tapes: records written frame by frame on cells that can only rise, so that a cut anywhere is seen."""

from onlyhigher.bounds import MAX_TAPE, MAX_WIDE
from onlyhigher.errors import BadTape, Spent, Unfit
from onlyhigher.values import is_integer

# The kinds of a frame.
BLANK = "blank"
WHOLE = "whole"
STRUCK = "struck"
TORN = "torn"


def frame_size(wide):
    return 2 * wide + 1


def frames_of(tape):
    """Return a list of the cells of each frame."""
    wide, cells = tape
    size = frame_size(wide)
    return [cells[at:at + size] for at in range(0, len(cells), size)]


def posts_of(frame):
    """Return a list of the pairs of cells of each post."""
    return [frame[at:at + 2] for at in range(0, len(frame) - 1, 2)]


def frame_kind(frame):
    """Return the kind of a frame, None if it is of none."""
    if not any(frame):
        return BLANK
    if frame[-1] == 0:
        return TORN
    if all(frame):
        return STRUCK
    if all([sum(post) == 1 for post in posts_of(frame)]):
        return WHOLE
    return None


def tape_error(value):
    """Return None for a right tape, otherwise the first fault of value."""
    if not isinstance(value, tuple) or len(value) != 2:
        return "form"
    wide, cells = value
    if not is_integer(wide) or not 1 <= wide <= MAX_WIDE or not isinstance(cells, tuple):
        return "form"
    if not all([is_integer(cell) and 0 <= cell <= 1 for cell in cells]):
        return "cells"
    if len(cells) > MAX_TAPE or len(cells) % frame_size(wide) != 0:
        return "cells"
    ended = False
    for place, frame in enumerate(frames_of(value)):
        kind = frame_kind(frame)
        if kind is None or ended and kind != BLANK:
            return ("frame", place)
        ended = kind in (BLANK, TORN)
    return None


def blank_tape(wide, many):
    """Return the tape of so many frames of which no cell is raised."""
    return (wide, (0,) * (frame_size(wide) * many))


def whole_records(tape):
    """Return the records of the whole frames."""
    return tuple([record_in(frame) for frame in frames_of(tape) if frame_kind(frame) == WHOLE])


def record_in(frame):
    """Return the record of a whole frame."""
    record = 0
    for post in posts_of(frame):
        # The second cell of a post is raised just where the figure is 1.
        record = 2 * record + post[1]
    return record


def first_of_kind(tape, wanted):
    """Return the place of the first frame of the kind wanted, None if there is none."""
    for place, frame in enumerate(frames_of(tape)):
        if frame_kind(frame) == wanted:
            return place
    return None


def writing(tape, record):
    """Return the places of the cells to be raised, one by one, for the record."""
    wide = tape[0]
    if not is_integer(record) or not 0 <= record < 1 << wide:
        raise Unfit()
    torn = first_of_kind(tape, TORN)
    if torn is not None:
        raise BadTape(torn)
    place = first_of_kind(tape, BLANK)
    if place is None:
        raise Spent()
    start = place * frame_size(wide)
    figures = [record >> (wide - 1 - at) & 1 for at in range(wide)]
    return tuple([start + 2 * at + figure for at, figure in enumerate(figures)]) + (start + 2 * wide,)


def striking(tape):
    """Return the places of the cells to be raised, one by one, to make a torn frame a struck one."""
    torn = first_of_kind(tape, TORN)
    if torn is None:
        return ()
    wide, cells = tape
    start = torn * frame_size(wide)
    return tuple([at for at in range(start, start + frame_size(wide)) if cells[at] == 0])


def raised(tape, places):
    """Return the tape with the cells at places raised."""
    wide, cells = tape
    newer = list(cells)
    for at in places:
        newer[at] = 1
    return (wide, tuple(newer))
