"""The codes of a card with the greatest strength."""

from onlyhigher.hopes import code_or_tree


def best_code(card, many, least):
    """Return a code of the card with so many values and the strength least or more, None if there is none."""
    return code_or_tree(card, many, least)[0]
