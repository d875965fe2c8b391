"""Books: what a keeper keeps, change by change."""

from withoutloops.doing import check_change, is_idle, kept_at_first, kept_behind, told_behind, told_change
from withoutloops.errors import BadChange, BadChanges, BadTable, Barred, NoBook, NoWish
from withoutloops.keepers import check_keeper
from withoutloops.packed import Grounds
from withoutloops.values import check_size


class Book:
    """The tables of a keeper over n places, told and kept, behind the changes that were done in it."""

    def __init__(self, keeper, n):
        check_keeper(keeper)
        check_size(n)
        self.keeper = keeper
        self.n = n
        self.grounds = Grounds(n)
        self.changes = ()
        self.store = tuple([(name, ()) for name, _ in keeper.told])
        self.kept = kept_at_first(keeper.plan, self.grounds)
        self.answer = self.asked(keeper.plan.answer)

    def __len__(self):
        return len(self.changes)

    def __eq__(self, other):
        return (
            isinstance(other, Book)
            and self.keeper == other.keeper
            and self.n == other.n
            and self.changes == other.changes
        )

    def asked(self, question):
        """The ascending tuple of the rows for which a question over told and kept tables holds now."""
        leaves = self.grounds.leaves_upon(self.store + self.kept)
        return self.grounds.rows_that_hold(question, leaves, ())

    def put(self, name, row):
        """Lets a row come: whether it did not stand yet."""
        return self.do(told_change("put", name, row, self.keeper.told, self.n))

    def strike(self, name, row):
        """Lets a row go: whether it stood."""
        return self.do(told_change("strike", name, row, self.keeper.told, self.n))

    def do(self, change):
        """Does a change: whether it was not idle."""
        check_change(change, self.keeper.told, self.n)
        if is_idle(self.store, change):
            self.changes = self.changes + (change,)
            return False
        kept = kept_behind(self.keeper.plan, self.grounds, self.store, self.kept, change)
        self.store = told_behind(self.store, change)
        self.kept = kept
        self.answer = self.asked(self.keeper.plan.answer)
        self.changes = self.changes + (change,)
        return True

    def table(self, name):
        """The ascending tuple of the rows that stand in a told or kept table."""
        standing = dict(self.store + self.kept)
        if not isinstance(name, str) or name not in standing:
            raise BadTable(name)
        return standing[name]

    def wished(self):
        """The ascending tuple of the rows for which the wish holds now."""
        if not self.keeper.has_wish:
            raise NoWish(None)
        return self.asked(self.keeper.plan.wish)

    def copy(self):
        """An equal book by itself."""
        return book_at(self.keeper, self.n, (self.store, self.kept), self.changes)


def book_at(keeper, n, standing, changes):
    """The Book behind these changes, which lead to this STANDING."""
    book = Book(keeper, n)
    book.store, book.kept = standing
    book.changes = changes
    book.answer = book.asked(keeper.plan.answer)
    return book


def check_book(book):
    """Refuses what is no Book."""
    if not isinstance(book, Book):
        raise NoBook(book)


def check_changes(changes):
    """Refuses what is no tuple."""
    if not isinstance(changes, tuple):
        raise BadChanges(None)


def do_numbered(book, number, change):
    """Does a change, the one with this number of CHANGES."""
    try:
        book.do(change)
    except (BadChange, Barred):
        raise BadChanges(number) from None


def booked(keeper, n, changes):
    """The Book behind these changes."""
    book = Book(keeper, n)
    check_changes(changes)
    for number, change in enumerate(changes):
        do_numbered(book, number, change)
    return book


def is_right(book):
    """Whether the book's answer is what is wished now."""
    check_book(book)
    return book.answer == book.wished()


def first_wrong(keeper, n, changes):
    """The least number of changes behind which the book is not right, None if there is none."""
    check_keeper(keeper)
    if not keeper.has_wish:
        raise NoWish(None)
    book = Book(keeper, n)
    check_changes(changes)
    wrong = None if is_right(book) else 0
    for number, change in enumerate(changes):
        do_numbered(book, number, change)
        if wrong is None and not is_right(book):
            wrong = number + 1
    return wrong
