"""Benches: a code that edits change, with all that was done kept so that it can be taken back."""

from onlyhigher.bounds import MAX_EDITS
from onlyhigher.cards import states
from onlyhigher.codes import code_error, label
from onlyhigher.edits import batch_done, raised_to, relabelled, renamed, reordered
from onlyhigher.errors import BadCode, HigherError, NothingToRedo, NothingToUndo, NoVersion, TooManyEdits
from onlyhigher.strengths import strengths
from onlyhigher.values import is_integer


def labelled_states(code):
    card, labels = code
    return tuple([state for state, name in zip(states(card), labels) if name is not None])


class Bench:
    """A code, and the edits that stand and that were taken back."""

    def __init__(self, code):
        fault = code_error(code)
        if fault is not None:
            raise BadCode(fault)
        self._stand((code,), ())

    def _stand(self, codes, undone):
        """Keep these codes, one for each version, and those that were taken back, the last one taken first."""
        self._codes = codes
        self._undone = undone
        self._labelled = labelled_states(codes[-1])

    @property
    def code(self):
        """The code as it is now."""
        return self._codes[-1]

    @property
    def version(self):
        """How many edits stand."""
        return len(self._codes) - 1

    def __len__(self):
        return len(self._codes[-1][1])

    def __getitem__(self, at):
        return label(self._codes[-1], at)

    def __iter__(self):
        return iter(self._labelled)

    def __eq__(self, other):
        return isinstance(other, Bench) and self.code == other.code

    def strength(self):
        """Return the strength of the empty state."""
        return strengths(self.code)[0]

    def _edited(self, code):
        """Let the code stand behind one more edit, and return the version."""
        if self.version == MAX_EDITS:
            raise TooManyEdits()
        self._stand(self._codes + (code,), ())
        return self.version

    def relabel(self, state, value):
        """Give the state the label value, none if it is None."""
        return self._edited(relabelled(self.code, state, value))

    def rename(self, names):
        """Exchange each label as the pairs of names tell."""
        return self._edited(renamed(self.code, names))

    def reorder(self, order):
        """Exchange the cells, the cell order[i] becoming the cell i."""
        return self._edited(reordered(self.code, order))

    def lift(self, card):
        """Bring the code to a card with more cells, or with greater tops."""
        return self._edited(raised_to(self.code, card))

    def batch(self, edits):
        """Do several edits as one, or none of them if one is refused."""
        return self._edited(batch_done(self.code, edits))

    def undo(self):
        """Take back the last edit, and return the version."""
        if self.version == 0:
            raise NothingToUndo()
        self._stand(self._codes[:-1], self._codes[-1:] + self._undone)
        return self.version

    def redo(self):
        """Do the edit again that was taken back last, and return the version."""
        if not self._undone:
            raise NothingToRedo()
        self._stand(self._codes + self._undone[:1], self._undone[1:])
        return self.version

    def at(self, version):
        """Return the code when so many edits stood."""
        if not is_integer(version) or not 0 <= version <= self.version:
            raise NoVersion(version)
        return self._codes[version]

    def copy(self):
        """Return a bench with the same code and the same edits."""
        twin = Bench(self.code)
        twin._stand(self._codes, self._undone)
        return twin

    def attempt(self, work):
        """Return what work tells of the bench; if it raises an error of the package, all is as it was."""
        codes, undone = self._codes, self._undone
        try:
            return work(self)
        except HigherError:
            self._stand(codes, undone)
            raise
