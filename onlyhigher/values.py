"""Plain values, values and their order."""

from onlyhigher.bounds import MAX_ITEMS, MAX_NUMBER, MAX_WORD


def is_integer(value):
    # A bool is an int for Python, but True is not 1 here.
    return isinstance(value, int) and not isinstance(value, bool)


def is_word(value):
    if not isinstance(value, str) or not 1 <= len(value) <= MAX_WORD:
        return False
    return all(["a" <= letter <= "z" for letter in value])


def is_plain(value):
    if is_integer(value):
        return 0 <= value <= MAX_NUMBER
    return is_word(value)


def is_value(value):
    """Tell whether value, any value, is a value."""
    if isinstance(value, tuple):
        return 1 <= len(value) <= MAX_ITEMS and all([is_plain(item) for item in value])
    return is_plain(value)


def value_rank(value):
    """Return what sorts a value among the values: integers, then words, then tuples."""
    if isinstance(value, tuple):
        return (2, tuple([value_rank(item) for item in value]))
    if isinstance(value, str):
        return (1, value)
    return (0, value)


def is_ascending(values):
    ranks = [value_rank(value) for value in values]
    return all([ahead < behind for ahead, behind in zip(ranks, ranks[1:])])
