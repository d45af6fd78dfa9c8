"""The texts of codes."""

from onlyhigher.bounds import MAX_NUMBER
from onlyhigher.codes import code_error
from onlyhigher.errors import BadText


def code_text(code):
    """Return the text of a code."""
    card, labels = code
    head = " ".join(["card"] + [str(top) for top in card])
    return head + "\n" + " ".join([label_text(name) for name in labels])


def label_text(name):
    if name is None:
        return "-"
    if isinstance(name, tuple):
        return "(" + ",".join([str(item) for item in name]) + ")"
    return str(name)


def read_code(value):
    """Return the code of which value is the text."""
    if not isinstance(value, str):
        raise BadText()
    lines = value.split("\n")
    heads = lines[0].split(" ")
    if len(lines) != 2 or heads[0] != "card":
        raise BadText()
    card = tuple([read_plain(word) for word in heads[1:]])
    code = (card, tuple([read_label(word) for word in lines[1].split(" ")]))
    # A word that tells nothing was read as itself, and no code has it.
    if code_error(code) is not None:
        raise BadText()
    return code


def read_label(word):
    if word == "-":
        return None
    if word.startswith("(") and word.endswith(")"):
        return tuple([read_plain(item) for item in word[1:-1].split(",")])
    return read_plain(word)


def read_plain(word):
    """Return the integer that word tells in figures; word itself if it tells none."""
    if word == "0":
        return 0
    # No number of a code has more figures, and int() does not take very many of them.
    if not 1 <= len(word) <= len(str(MAX_NUMBER)) or word[0] == "0":
        return word
    if all([figure in "0123456789" for figure in word]):
        return int(word)
    return word
