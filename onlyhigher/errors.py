"""The errors of the package, each directly under HigherError."""


class HigherError(ValueError):
    """What all errors of the package are."""


class BadCard(HigherError):
    """A value that is no card; error tells why, as card_error does."""

    def __init__(self, error):
        self.error = error


class BadCode(HigherError):
    """A value that is no code; error tells why, as code_error does."""

    def __init__(self, error):
        self.error = error


class BadText(HigherError):
    """A value that is the text of no code."""


class NoState(HigherError):
    """A value that is no state of the card; given is this value."""

    def __init__(self, given):
        self.given = given


class NoValue(HigherError):
    """A value that is no value of the code; given is this value."""

    def __init__(self, given):
        self.given = given


class NoKind(HigherError):
    """A value that is no kind for the code; error tells why, as kind_error does."""

    def __init__(self, error):
        self.error = error


class Unfit(HigherError):
    """Arguments that do not fit together."""


class TooMany(HigherError):
    """More than the bound limit."""

    def __init__(self, limit):
        self.limit = limit


class HasCode(HigherError):
    """There is a code where a paper was asked that there is none; found is such a code."""

    def __init__(self, found):
        self.found = found


class Crowded(HigherError):
    """Slips that the code does not withstand; pair is two states that can't be told apart."""

    def __init__(self, pair):
        self.pair = pair


class NoName(HigherError):
    """A value that is none of the names; given is this value."""

    def __init__(self, given):
        self.given = given


class Spent(HigherError):
    """No room is left for what was asked."""


class BadTape(HigherError):
    """A tape or a row of records that can't be taken; place tells where."""

    def __init__(self, place):
        self.place = place


class BadMachine(HigherError):
    """A value that is no machine of the code; error tells why, as machine_error does."""

    def __init__(self, error):
        self.error = error


class BadBatch(HigherError):
    """A value that is no batch of edits."""


class Rejected(HigherError):
    """A batch of which the edit at index was refused."""

    def __init__(self, index):
        self.index = index


class TooManyEdits(HigherError):
    """More edits than are kept."""


class NothingToUndo(HigherError):
    """No edit is left to undo."""


class NothingToRedo(HigherError):
    """No edit is left to redo."""


class NoVersion(HigherError):
    """A value that is no version; given is this value."""

    def __init__(self, given):
        self.given = given
