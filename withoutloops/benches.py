"""Benches: a book at which deeds are done, taken back, and tried."""

from withoutloops.books import book_at
from withoutloops.doing import told_change
from withoutloops.errors import NoBlock, NothingToRedo, NothingToUndo
from withoutloops.keepers import Keeper
from withoutloops.standings import Doer
from withoutloops.values import check_size


class Trial:
    """A trial that goes on: whether it was told to stand."""

    def __init__(self):
        self.stands = False


class Bench:
    """What a text's Keeper keeps over n places, deed by deed.

    changes are the deeds that stand, stood are the STANDINGS ahead of the first one and behind each of them, and
    taken_back are the deeds that can be done again, of which the last one is the next. All of these are tuples, never
    changed, but others put for them: so behind a trial those are put back that were there ahead of it.
    """

    def __init__(self, text, n):
        self.keeper = Keeper(text)
        check_size(n)
        self.n = n
        self.deeds = 0
        self.doer = Doer(self.keeper, n)
        self.changes = ()
        self.stood = (self.doer.first(),)
        self.taken_back = ()
        self.trial = None

    def __len__(self):
        return len(self.changes)

    def __eq__(self, other):
        return (
            isinstance(other, Bench)
            and self.keeper == other.keeper
            and self.n == other.n
            and self.changes == other.changes
        )

    def put(self, name, row):
        """Lets a row come: whether it did not stand yet."""
        return self.do_deed("put", name, row)

    def strike(self, name, row):
        """Lets a row go: whether it stood."""
        return self.do_deed("strike", name, row)

    def do_deed(self, word, name, row):
        """Does a deed: whether it was not idle."""
        ahead = self.stood[-1]
        self.go_on(told_change(word, name, row, self.keeper.told, self.n), ())
        return self.stood[-1] != ahead

    def go_on(self, change, taken_back):
        """Does a change, and lets these deeds be those that can be done again."""
        self.stood = self.stood + (self.doer.done(self.stood[-1], change),)
        self.changes = self.changes + (change,)
        self.taken_back = taken_back
        self.deeds = len(self.changes)

    def book_now(self):
        """A Book equal to the bench's, by itself."""
        return book_at(self.keeper, self.n, self.stood[-1], self.changes)

    def undo(self):
        """Takes the last deed back that stands."""
        if len(self.changes) == 0:
            raise NothingToUndo(None)
        self.taken_back = self.taken_back + self.changes[-1:]
        self.stood = self.stood[:-1]
        self.changes = self.changes[:-1]
        self.deeds = len(self.changes)

    def redo(self):
        """Does the deed again that was taken back last."""
        if len(self.taken_back) == 0:
            raise NothingToRedo(None)
        self.go_on(self.taken_back[-1], self.taken_back[:-1])

    def tried(self, look, *, keep=False):
        """Calls look with the bench: what it returned. What was done stands only if it was told to be kept."""
        changes, stood, taken_back, deeds, outer = self.changes, self.stood, self.taken_back, self.deeds, self.trial
        trial = Trial()
        self.trial = trial
        kept = None
        try:
            found = look(self)
            if keep is True or trial.stands:
                kept = trial
        finally:
            self.trial = outer
            if kept is None:
                self.changes, self.stood, self.taken_back, self.deeds = changes, stood, taken_back, deeds
        return found

    def keep(self):
        """Lets what is done in the innermost trial stand."""
        trial = self.trial
        if trial is None:
            raise NoBlock(None)
        trial.stands = True

    def copy(self):
        """An independent bench, alike in all things, outside of all trials."""
        bench = Bench(self.keeper.text, self.n)
        bench.changes = self.changes
        bench.stood = self.stood
        bench.taken_back = self.taken_back
        bench.deeds = self.deeds
        return bench
