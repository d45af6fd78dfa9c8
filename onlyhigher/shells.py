"""Shells: a bench that is told line by line what to do."""

from onlyhigher.benches import Bench
from onlyhigher.bounds import MAX_SLIPS
from onlyhigher.codes import values_of
from onlyhigher.codetexts import code_text, read_code, read_label
from onlyhigher.cuts import safe_strengths
from onlyhigher.errors import HigherError
from onlyhigher.looks import least_looks
from onlyhigher.plays import told_state
from onlyhigher.shares import means
from onlyhigher.slips import turn_strengths
from onlyhigher.strengths import strength
from onlyhigher.values import is_value

WHAT = "what"
FIGURES = 6


def is_count(word):
    """Tell whether word is an integer in decimal, without noughts ahead, with few figures."""
    if not 1 <= len(word) <= FIGURES or word[0] == "0" and word != "0":
        return False
    return all([figure in "0123456789" for figure in word])


def read_state(word):
    """Return the tuple of the counts that word tells, None if it tells none."""
    counts = word.split(",")
    if not all([is_count(count) for count in counts]):
        return None
    return tuple([int(count) for count in counts])


def state_text(state):
    return "none" if state is None else ",".join([str(level) for level in state])


def is_value_text(word):
    # None, for which "-" stands, may be told wherever a value may.
    return word == "-" or is_value(read_label(word))


def version_text(version):
    return "version " + str(version)


def show_text(code):
    return code_text(code).replace("\n", " / ")


def safe_text(code):
    return str(safe_strengths(code)[0])


def looks_text(code):
    return str(least_looks(code))


def mean_text(code):
    above, below = means(code, tuple([(value, 1) for value in values_of(code)]))[0]
    return str(above) + "/" + str(below)


# The heads of the lines that ask for a bench: whole lines about its code, other whole lines, and those with a rest.
ASKS = {"show": show_text, "safe": safe_text, "looks": looks_text, "mean": mean_text}
STEPS = ("undo", "redo")
TELLS = ("label", "lift", "strength", "told", "slips")


def whole_answer(bench, line):
    """Return the answer to a line without a rest."""
    if line == "undo":
        return version_text(bench.undo())
    if line == "redo":
        return version_text(bench.redo())
    answer = ASKS[line]
    return answer(bench.code)


def slips_answer(code, rest):
    if not is_count(rest) or int(rest) > MAX_SLIPS:
        return WHAT
    return str(turn_strengths(code, int(rest))[0])


def rest_answer(bench, head, rest):
    """Return the answer to a line with a rest."""
    if head == "slips":
        return slips_answer(bench.code, rest)
    words = rest.split(" ")
    state = read_state(words[0])
    if state is None or len(words) != (2 if head in ("label", "told") else 1):
        return WHAT
    if head == "lift":
        return version_text(bench.lift(state))
    if head == "strength":
        return str(strength(bench.code, state))
    if not is_value_text(words[1]):
        return WHAT
    value = read_label(words[1])
    if head == "label":
        return version_text(bench.relabel(state, value))
    return state_text(told_state(bench.code, state, value))


class Shell:
    """A bench, none at first, that lines of text ask for."""

    def __init__(self):
        self._bench = None

    def say(self, line):
        """Return the answer to a line."""
        if not isinstance(line, str):
            return WHAT
        try:
            return self._answer(line)
        except HigherError as why:
            return "error " + why.__class__.__name__

    def _answer(self, line):
        head, blank, rest = line.partition(" ")
        if head == "code" and blank:
            self._bench = Bench(read_code(rest.replace(" / ", "\n")))
            return "ok"
        if head not in ASKS and head not in STEPS and head not in TELLS:
            return WHAT
        if self._bench is None:
            return "no bench"
        if (head in TELLS) != (blank == " "):
            return WHAT
        return rest_answer(self._bench, head, rest) if blank else whole_answer(self._bench, line)
