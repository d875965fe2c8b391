"""Sections 2 and 7: what Book, booked, is_right and first_wrong refuse, and that a call that raises changes nothing."""

from tests.refusing import Refusals, odd_objects, refused
from withoutloops.books import Book, booked, first_wrong, is_right
from withoutloops.errors import (
    BadChange, BadChanges, BadRow, BadSize, BadTable, Barred, NoBook, NoKeeper, NoWish,
)
from withoutloops.keepers import Keeper

LINES = [
    'told row 2', 'told in 1', 'told flag 0', 'kept go 2', 'first go x y is same x y', 'put row', 'bar go q p', 'bar in p',
    'set go x y is or go x y and go x p go q y', 'put flag', 'bar yes', 'answer x y is go x y', 'wish x y is reach x y u v row u v',
]
KEEPER = Keeper('\n'.join(LINES))
NO_WISH = Keeper('\n'.join(LINES[:-1]))
STEP = ('put', 'row', (0, 1))


def odd_values_and_books():
    """Values of all kinds, a Keeper and a Book too."""
    return odd_objects() + [KEEPER, Book(KEEPER, 2)]


class New(Refusals):
    def test_what_is_no_keeper(self):
        for value in odd_values_and_books():
            if value is not KEEPER:
                self.check(NoKeeper, value, Book, value, 2)
                self.check(NoKeeper, value, booked, value, 2, ())
                self.check(NoKeeper, value, first_wrong, value, 2, ())

    def test_numbers_of_places(self):
        for value in odd_values_and_books():
            self.check(BadSize, value, Book, KEEPER, value)
            self.check(BadSize, value, booked, KEEPER, value, ())
            self.check(BadSize, value, first_wrong, KEEPER, value, ())

    def test_what_is_no_book(self):
        for value in odd_values_and_books():
            if not isinstance(value, Book):
                self.check(NoBook, value, is_right, value)
        self.check(NoWish, None, is_right, Book(NO_WISH, 2))
        self.check(NoWish, None, Book(NO_WISH, 2).wished)
        self.check(NoWish, None, first_wrong, NO_WISH, 2, ())

    def test_the_first_that_is_listed(self):
        self.check(NoKeeper, None, Book, None, 0)
        self.check(NoKeeper, None, booked, None, 0, None)
        self.check(BadSize, 0, booked, KEEPER, 0, None)
        self.check(NoKeeper, None, first_wrong, None, 0, None)
        self.check(NoWish, None, first_wrong, NO_WISH, 0, None)
        self.check(BadSize, 0, first_wrong, KEEPER, 0, None)
        self.check(BadChanges, None, first_wrong, KEEPER, 1, None)


class Deeds(Refusals):
    def setUp(self):
        self.book = booked(KEEPER, 2, (STEP,))
        self.before = self.told()

    def told(self):
        book = self.book
        return book.store, book.kept, book.answer, book.changes, len(book), book.n, book.keeper.text

    def tearDown(self):
        self.assertEqual(self.told(), self.before)
        self.assertEqual(self.book, booked(KEEPER, 2, (STEP,)))

    def test_names_that_are_none(self):
        for name in odd_values_and_books() + ['go', 'Row', 'row ', '', 'up', ('row',), ['row'], 'p']:
            for call in (self.book.put, self.book.strike):
                self.check(BadTable, name, call, name, (0, 1))
                self.check(BadTable, name, call, name, None)

    def test_rows_that_are_none(self):
        rows = [(0, 2), (0, -1), (0,), (0, 1, 0), [0, 1], (0, True), (False, 1), (0, None), '01', (0, '1'), ((0, 1),)]
        for call in (self.book.put, self.book.strike):
            for row in rows + odd_values_and_books():
                self.check(BadRow, row, call, 'row', row)
            for row in [(2,), (True,), 0, (0, 1), (), [0], ([0],)]:
                self.check(BadRow, row, call, 'in', row)
            for row in [(0,), [], None, '', (None,), ((),)]:
                self.check(BadRow, row, call, 'flag', row)

    def test_changes_that_are_none(self):
        changes = [
            STEP[:2], STEP + (0,), list(STEP), ('Put', 'row', (0, 1)), ('bar', 'row', (0, 1)), (None, 'row', (0, 1)),
            (True, 'row', (0, 1)), (('put',), 'row', (0, 1)), (['put'], 'row', (0, 1)), ('put', 'go', (0, 1)),
            ('put', 'up', (0, 1)), ('put', ['row'], (0, 1)), ('put', None, (0, 1)), ('put', 'row', (0, 2)),
            ('put', 'row', [0, 1]), ('put', 'row', (0, True)), ('put', 'row', None), ('strike', 'row', (0,)),
            ('strike', 'in', ()), ('strike', 'flag', (0,)), ('row', 'put', (0, 1)), ({}, {}, {}), (0, 1, 2),
            ('put', {'row': 1}, (0, 1)), ('again', 3, (STEP,)), (STEP,), ('', '', ()), ('put', 'row', ((0,), 1)),
        ]
        for change in changes + odd_values_and_books():
            self.check(BadChange, change, self.book.do, change)

    def test_barred_ones(self):
        self.check(Barred, 7, self.book.put, 'row', (1, 0))
        self.check(Barred, 7, self.book.do, ('put', 'row', (1, 1)))
        self.check(Barred, 11, self.book.put, 'flag', ())
        self.assertIs(type(refused(self.book.put, 'flag', ())[1]), int)

    def test_the_first_that_is_listed(self):
        for call in (self.book.put, self.book.strike):
            self.check(BadTable, 'go', call, 'go', None)
            self.check(BadRow, (1, 2), call, 'row', (1, 2))

    def test_tables_that_are_none(self):
        for name in odd_values_and_books() + ['up', '', 'Row', ('row',), ['go'], 'row go']:
            self.check(BadTable, name, self.book.table, name)
        self.assertEqual(self.book.table('go'), ((0, 0), (0, 1), (1, 1)))
        self.assertEqual((self.book.table('row'), self.book.table('flag')), (((0, 1),), ()))


class Changes(Refusals):
    def check_both(self, value, changes):
        for call in (booked, first_wrong):
            told = refused(call, KEEPER, 2, changes)
            self.assertIsNotNone(told, changes)
            self.assertEqual((told[0], type(told[1]), told[1]), (BadChanges, type(value), value))

    def test_what_is_no_tuple(self):
        for value in odd_values_and_books():
            if not isinstance(value, tuple):
                self.check_both(None, value)
        self.check_both(None, [STEP])

    def test_the_number_of_the_first_that_cannot_be_done(self):
        barred, none = ('put', 'row', (1, 0)), ('put', 'row', (0, 2))
        told = [
            ((none,), 0), ((STEP, none), 1), ((STEP, barred), 1), ((STEP, STEP, barred, none), 2), ((STEP, none, barred), 1),
            ((barred, STEP), 1), ((('put', 'flag', ()),), 0), ((STEP, STEP, STEP, list(STEP)), 3), (((),), 0), (('put', 'row', (0, 1)), 0),
            ((STEP, ('strike', 'row', (0, 1)), barred, None), 2), ((barred, ('put', 'in', (1,)), ('put', 'row', (1, 1))), 2),
            ((('put', 'in', (0,)), STEP, none), 1), ((None,), 0), ((STEP, [STEP]), 1), ((barred, barred, STEP), 2),
        ]
        for changes, number in told:
            with self.subTest(changes):
                self.check_both(number, changes)

    def test_wrong_answers_ahead_of_bad_changes(self):
        wrong = (STEP, ('strike', 'row', (0, 1)))
        self.assertEqual(first_wrong(KEEPER, 2, wrong), 2)
        self.check_both(2, wrong + (None,))
        self.check_both(3, wrong + (STEP, ('put', 'row', (1, 0))))

    def test_changes_of_another_n(self):
        self.check_both(0, (('put', 'in', (2,)),))
        self.assertEqual(len(booked(KEEPER, 3, (('put', 'in', (2,)),))), 1)
