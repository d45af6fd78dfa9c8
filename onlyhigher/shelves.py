"""Shelves: names, each with a card of its own, and spares."""

from onlyhigher.bounds import MAX_NAMES, MAX_SHELF, MAX_SPARES
from onlyhigher.cards import place_of
from onlyhigher.codes import code_error, label, require_values, states_with, values_of
from onlyhigher.errors import BadCode, BadTape, NoName, Spent, TooMany, Unfit
from onlyhigher.plays import best_state
from onlyhigher.stocks import stock_ranks
from onlyhigher.strengths import strengths
from onlyhigher.values import is_ascending, is_integer, is_value, is_word


def edits_left(code, states, spares):
    """Return how many values can be written for names whose cards are in these states, with so many spares."""
    card, labels = code
    places = [place_of(card, state) for state in states]
    if None in [labels[place] for place in places]:
        raise Unfit()
    row, rows = 0, 1
    for place in places:
        row = row * len(labels) + place
        rows = rows * len(labels)
    if rows * (spares + 1) > MAX_SHELF:
        raise TooMany(MAX_SHELF)
    return stock_ranks(code, len(places), spares)[row]


def are_names(value):
    if not isinstance(value, tuple) or not 1 <= len(value) <= MAX_NAMES:
        return False
    return all([is_word(name) for name in value]) and is_ascending(value)


def require_name(names, name):
    if name not in names:
        raise NoName(name)


class Shelf:
    """Names, each with a card of the code of its own, the cards that were left, and the spares."""

    def __init__(self, code, names, spares):
        fault = code_error(code)
        if fault is not None:
            raise BadCode(fault)
        if not are_names(names) or not is_integer(spares) or not 0 <= spares <= MAX_SPARES:
            raise Unfit()
        self._code = code
        self._ranks = strengths(code)
        self._names = names
        self._spares = spares
        self._cards = ((0,) * len(code[0]),) * len(names)
        self._gone = ()
        self._wiped = 0

    def states(self):
        """Return the states of the cards of the names."""
        return self._cards

    def left(self):
        """Return the states of the cards that were left."""
        return self._gone

    def spare(self):
        """Return how many spares there are."""
        return self._spares - len(self._gone)

    def read(self, name):
        """Return the value that the name reads."""
        require_name(self._names, name)
        return label(self._code, self._cards[self._names.index(name)])

    def find(self, value):
        """Return the names that read the value."""
        # What is no value might be equal to one, as True is to 1.
        return tuple([name for name in self._names if is_value(value) and self.read(name) == value])

    def edit(self, name, value):
        """Write the value for the name, on its card or on a spare, and return how that was done."""
        require_name(self._names, name)
        require_values(self._code, (value,))
        if self.read(name) == value:
            return "same"
        place = self._names.index(name)
        state = best_state(self._code, self._ranks, self._cards[place], value)
        if state is not None:
            self._put(place, state)
            return "written"
        if self.spare() == 0:
            raise Spent()
        self._gone = self._gone + (self._cards[place],)
        self._put(place, self._fresh_state(value))
        return "fresh"

    def _put(self, place, state):
        self._cards = self._cards[:place] + (state,) + self._cards[place + 1:]

    def _fresh_state(self, value):
        """Return the state of a new card for the value: the strongest one, the nearest one, the least one."""
        rows = states_with(self._code, value)
        return min([(-self._ranks[place_of(self._code[0], state)], sum(state), state) for state in rows])[2]

    def wipe(self):
        """Make all cards new, and return how many times that was done."""
        self._cards = tuple([self._fresh_state(self.read(name)) for name in self._names])
        self._gone = ()
        self._wiped = self._wiped + 1
        return self._wiped

    def copy(self):
        """Return a shelf that is as this one."""
        twin = Shelf(self._code, self._names, self._spares)
        twin._cards = self._cards
        twin._gone = self._gone
        twin._wiped = self._wiped
        return twin


def record_of(code, names, name, value):
    """Return the number of the edit of the name to the value."""
    require_name(names, name)
    require_values(code, (value,))
    values = values_of(code)
    return names.index(name) * len(values) + values.index(value)


def shelf_behind(code, names, spares, records):
    """Return the shelf behind the edits with these numbers."""
    shelf = Shelf(code, names, spares)
    values = values_of(code)
    for place, record in enumerate(records):
        if record >= len(names) * len(values):
            raise BadTape(place)
        name, value = divmod(record, len(values))
        try:
            shelf.edit(names[name], values[value])
        except Spent:
            raise BadTape(place)
    return shelf
