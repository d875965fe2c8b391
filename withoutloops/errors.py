"""All errors: each one keeps what it was created with as `value`."""


class LoopError(ValueError):
    """What all errors of the package derive from."""

    def __init__(self, value):
        self.value = value


class BadSize(LoopError):
    """A number of places that is no integer from 1 to 5."""


class BadHead(LoopError):
    """A head that is no tuple of none to three unlike names."""


class BadTables(LoopError):
    """Tables that are no tuple of unlike names, each with a number of places."""


class BadChanged(LoopError):
    """A number of changed places that is no integer from 0 to 3."""


class BadQuestion(LoopError):
    """The number of the word at which a text cannot go on as one question."""


class NoQuestion(LoopError):
    """What is no Question."""


class BadStore(LoopError):
    """What is no store of the tables."""


class BadRow(LoopError):
    """What is no row of places, as many as are asked for."""


class HasLoop(LoopError):
    """The text of a loop question, where a loopless one is asked for."""


class BadPair(LoopError):
    """Two things that do not go together."""


class BadMost(LoopError):
    """A limit that is no integer within its bounds."""


class Wide(LoopError):
    """A limit that more would be needed than."""


class NoKeeper(LoopError):
    """What is no Keeper."""


class BadKeeper(LoopError):
    """The number of the line at which a text cannot go on as a keeper."""


class NoBook(LoopError):
    """What is no Book."""


class BadTable(LoopError):
    """What is no name of a table that is asked for."""


class BadChange(LoopError):
    """What is no change."""


class BadChanges(LoopError):
    """The number of the first change that cannot be done."""


class Barred(LoopError):
    """What tells where a change is barred."""


class NoWish(LoopError):
    """A wish is asked for where there is none."""


class BadPlace(LoopError):
    """What is no place."""


class NotGoing(LoopError):
    """The text of a keeper that is not the one of ways."""


class NoWay(LoopError):
    """Two places, no way from the first to the second."""


class IsWay(LoopError):
    """Two places, a way from the first to the second."""


class NotBarred(LoopError):
    """A row that would not be barred."""


class NotWeb(LoopError):
    """The text of a keeper that is none of those of webs."""


class BadRows(LoopError):
    """What is no ascending tuple of ties."""


class NoRing(LoopError):
    """A ring of an odd number of ties is asked for where there is none."""


class OddRing(LoopError):
    """Two sides are asked for where there are none."""


class NotTree(LoopError):
    """A tie that is none of the forest."""


class NotNumbers(LoopError):
    """The text of a keeper that is not the one of numbers."""


class NotUsed(LoopError):
    """A place that is not used."""


class BadNumber(LoopError):
    """What is no number within its bounds."""


class BadMachine(LoopError):
    """What is no machine."""


class BadState(LoopError):
    """What is no state of the machine."""


class BadWord(LoopError):
    """What is no word of the machine's signs."""


class NotWords(LoopError):
    """The text of a keeper that is not the machine's."""


class BadCarrying(LoopError):
    """What is no carrying."""


class Bounded(LoopError):
    """The number that bounds how many rows a change turns."""


class Unbounded(LoopError):
    """No number bounds how many rows a change turns."""


class BadHistory(LoopError):
    """What is no history."""


class NothingToUndo(LoopError):
    """No deed stands that could be taken back."""


class NothingToRedo(LoopError):
    """No deed was taken back that could be done again."""


class NoBlock(LoopError):
    """A trial is asked for outside of all trials."""


class BadJournal(LoopError):
    """The number of the line at which a text cannot go on as a journal."""


class BadTask(LoopError):
    """What is no line that a desk answers."""
