"""What the edits of a bench make of its code."""

from onlyhigher.alike import led
from onlyhigher.bounds import BATCH
from onlyhigher.cards import card_error, place_of
from onlyhigher.codes import code_error, values_of
from onlyhigher.errors import BadBatch, BadCard, BadCode, HigherError, Rejected, Unfit
from onlyhigher.together import lifted
from onlyhigher.values import is_integer, is_value

# How many items an edit in a batch has: its word and its arguments.
SIZES = {"relabel": 3, "rename": 2, "reorder": 2, "lift": 2}


def relabelled(code, state, value):
    """Return the code with another label, or none, for the state."""
    card, labels = code
    place = place_of(card, state)
    newer = (card, labels[:place] + (value,) + labels[place + 1:])
    fault = code_error(newer)
    if fault is not None:
        raise BadCode(fault)
    return newer


def renamed(code, names):
    """Return the code with its values renamed."""
    if not isinstance(names, tuple) or not all([is_pair_of_values(pair) for pair in names]):
        raise Unfit()
    return led(code, tuple(range(len(code[0]))), names)


def is_pair_of_values(value):
    return isinstance(value, tuple) and len(value) == 2 and is_value(value[0]) and is_value(value[1])


def reordered(code, order):
    """Return the code with its cells in another order."""
    if not isinstance(order, tuple) or not all([is_integer(cell) for cell in order]):
        raise Unfit()
    return led(code, order, tuple([(value, value) for value in values_of(code)]))


def raised_to(code, card):
    """Return the code lifted to the card."""
    fault = card_error(card)
    if fault is not None:
        raise BadCard(fault)
    return lifted(code, card)


def is_batch(value):
    if not isinstance(value, tuple) or len(value) > BATCH:
        return False
    return all([is_part(edit) for edit in value])


def is_part(value):
    """Tell whether value is the word of an edit and as many arguments as it has."""
    if not isinstance(value, tuple) or not value or not isinstance(value[0], str):
        return False
    return SIZES.get(value[0]) == len(value)


def part_done(code, edit):
    """Return the code behind one edit of a batch."""
    word = edit[0]
    if word == "relabel":
        return relabelled(code, edit[1], edit[2])
    if word == "rename":
        return renamed(code, edit[1])
    if word == "reorder":
        return reordered(code, edit[1])
    return raised_to(code, edit[1])


def batch_done(code, edits):
    """Return the code behind all edits of the batch."""
    if not is_batch(edits):
        raise BadBatch()
    for index, edit in enumerate(edits):
        try:
            code = part_done(code, edit)
        except HigherError:
            raise Rejected(index)
    return code
