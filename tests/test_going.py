"""Sections 8 and 3 (b): webs without rings, beside going through their rows."""

import itertools
import random
import unittest

from tests.plain import odd_values, plain_answer
from tests.plain_keepers import PlainBook, all_changes, random_change
from tests.plain_webs import come_to, has_ring, lines_of
from tests.refusing import Refusals, odd_objects, refused
from withoutloops.asks import Question
from withoutloops.books import Book, booked, first_wrong, is_right
from withoutloops.errors import BadPlace, Barred, IsWay, NoBook, NotBarred, NotGoing, NoWay
from withoutloops.going import (
    cut, going_keeper, in_sequence, meets, ring, shows_cut, shows_in_sequence, shows_ring, shows_way, way,
)
from withoutloops.keepers import Keeper
from withoutloops.webs import web_keeper

KEEPER = going_keeper()
MEETS = Question(
    ('z',), 'and and go p z go q z not some u and and and go p u go q u go u z not same u z', (('go', 2),), 2,
)


def random_book(rng, n, many):
    book = Book(KEEPER, n)
    for _ in range(many):
        try:
            book.do(random_change(rng, KEEPER.told, n))
        except Barred:
            pass
    return book


def rows_of(book):
    return book.table('row')


def is_plain_way(book, x, y, value):
    return value[0] == x and value[-1] == y and all(pair in rows_of(book) for pair in zip(value, value[1:]))


def is_plain_cut(book, x, y, value):
    return (
        list(value) == sorted(set(value)) and x in value and y not in value
        and not any(one in value and other not in value for one, other in rows_of(book))
    )


def all_tuples(n):
    """All tuples of up to n + 1 places."""
    return [some for many in range(n + 2) for some in itertools.product(range(n), repeat=many)]


class Kept(unittest.TestCase):
    """Section 3 (b): behind each change go tells where one comes to."""

    def check_book(self, book):
        rows, n = rows_of(book), book.n
        go = tuple((one, other) for one in range(n) for other in sorted(come_to(rows, one, n)))
        self.assertEqual((book.table('go'), book.answer, book.wished()), (go, go, go))
        self.assertIs(is_right(book), True)
        self.assertFalse(has_ring(rows, n))

    def test_histories(self):
        rng = random.Random(81)
        met = []
        for n in (1, 2, 3, 4, 5):
            for _ in range(12):
                book, rows = Book(KEEPER, n), set()
                for _ in range(30):
                    word, _, row = change = random_change(rng, KEEPER.told, n)
                    closes = row[0] in come_to(rows, row[1], n) and row not in rows and word == 'put'
                    try:
                        told = book.do(change)
                    except Barred as error:
                        self.assertEqual(error.value, 5)
                        told = 'barred'
                    self.assertEqual(told, 'barred' if closes else (row in rows) == (word == 'strike'))
                    met.append(told)
                    if told is True:
                        (rows.add if word == 'put' else rows.remove)(row)
                    self.assertEqual(set(rows_of(book)), rows)
                    self.check_book(book)
                self.assertIsNone(first_wrong(KEEPER, n, book.changes))
        for told in (True, False, 'barred'):
            self.assertGreater(met.count(told), 200)

    def test_all_it_comes_to_over_three_places(self):
        books, met = [Book(KEEPER, 3)], set()
        for book in books:
            self.check_book(book)
            for change in all_changes(KEEPER.told, 3):
                other = book.copy()
                if not refused(other.do, change) and (other.store, other.kept) not in met:
                    met.add((other.store, other.kept))
                    books.append(other)
        self.assertEqual(len(met), 25)

    def test_beside_a_plain_doing(self):
        rng = random.Random(82)
        for n in (2, 3, 4):
            plain = PlainBook('\n'.join(lines_of('going')), n)
            book = Book(KEEPER, n)
            for _ in range(12):
                change = random_change(rng, KEEPER.told, n)
                told = refused(book.do, change)
                self.assertEqual(plain.do(change) in (True, False), told is None)
                self.assertEqual((book.store, book.kept), (plain.store_of(['row']), plain.store_of(['go'])))


class Results(unittest.TestCase):
    def each_book(self, seed, times):
        rng = random.Random(seed)
        for n in (1, 2, 3, 4, 5):
            for _ in range(times):
                yield random_book(rng, n, rng.randint(0, 25))

    def test_ways_and_cuts(self):
        met = set()
        for book in self.each_book(83, 8):
            for x, y in itertools.product(range(book.n), repeat=2):
                if y in come_to(rows_of(book), x, book.n):
                    told = way(book, x, y)
                    self.assertIs(type(told), tuple)
                    self.assertTrue(is_plain_way(book, x, y, told))
                    self.assertIs(shows_way(book, x, y, told), True)
                    self.assertEqual(refused(cut, book, x, y), (IsWay, (x, y)))
                    self.assertEqual(refused(shows_cut, book, x, y, told), (IsWay, (x, y)))
                    met.add(len(told))
                else:
                    told = cut(book, x, y)
                    self.assertIs(type(told), tuple)
                    self.assertTrue(is_plain_cut(book, x, y, told))
                    self.assertIs(shows_cut(book, x, y, told), True)
                    self.assertEqual(refused(way, book, x, y), (NoWay, (x, y)))
                    self.assertEqual(refused(shows_way, book, x, y, told), (NoWay, (x, y)))
                    met.add(-len(told))
                if x == y:
                    self.assertEqual(way(book, x, y), (x,))
        self.assertLessEqual({1, 2, 3, 4, -1, -2, -3, -4}, met)

    def test_all_that_is_shown(self):
        """Each tuple of up to n + 1 places, for books over up to four places."""
        rng = random.Random(84)
        for n in (1, 2, 3, 4):
            for _ in range(2):
                book = random_book(rng, n, 12)
                for x, y in itertools.product(range(n), repeat=2):
                    comes = y in come_to(rows_of(book), x, n)
                    for value in all_tuples(n):
                        if comes:
                            right = value != () and is_plain_way(book, x, y, value)
                            self.assertIs(shows_way(book, x, y, value), right, (rows_of(book), x, y, value))
                        else:
                            self.assertIs(shows_cut(book, x, y, value), is_plain_cut(book, x, y, value))
                    if x in come_to(rows_of(book), y, n):
                        for value in all_tuples(n):
                            right = value != () and is_plain_way(book, y, x, value)
                            self.assertIs(shows_ring(book, x, y, value), right)
                for value in all_tuples(n):
                    right = sorted(value) == list(range(n)) and all(
                        value.index(one) < value.index(other) for one, other in rows_of(book)
                    )
                    self.assertIs(shows_in_sequence(book, value), right)

    def test_in_sequence(self):
        for book in self.each_book(85, 12):
            told = in_sequence(book)
            self.assertEqual(sorted(told), list(range(book.n)))
            self.assertTrue(all(told.index(one) < told.index(other) for one, other in rows_of(book)))
            self.assertIs(shows_in_sequence(book, told), True)

    def test_rings(self):
        met = set()
        for book in self.each_book(86, 8):
            for p, q in itertools.product(range(book.n), repeat=2):
                barred = refused(book.copy().put, 'row', (p, q))
                if barred:
                    told = ring(book, p, q)
                    self.assertTrue(is_plain_way(book, q, p, told))
                    self.assertIs(shows_ring(book, p, q, told), True)
                    met.add(len(told))
                else:
                    self.assertEqual(refused(ring, book, p, q), (NotBarred, (p, q)))
                    self.assertEqual(refused(shows_ring, book, p, q, (q, p)), (NotBarred, (p, q)))
                self.assertEqual(ring(book, p, p), (p,))
        self.assertLessEqual({1, 2, 3, 4}, met)

    def test_an_idle_put_is_not_barred(self):
        book = booked(KEEPER, 2, (('put', 'row', (0, 1)),))
        self.assertEqual(refused(ring, book, 0, 1), (NotBarred, (0, 1)))
        self.assertEqual(ring(book, 1, 0), (0, 1))

    def test_meets(self):
        met = set()
        for book in self.each_book(87, 10):
            for x, y in itertools.product(range(book.n), repeat=2):
                both = come_to(rows_of(book), x, book.n) & come_to(rows_of(book), y, book.n)
                near = tuple(sorted(
                    place for place in both
                    if not any(other != place and place in come_to(rows_of(book), other, book.n) for other in both)
                ))
                self.assertEqual(meets(book, x, y), near)
                asked = plain_answer(MEETS, book.n, (('go', book.table('go')),), (x, y))
                self.assertEqual(meets(book, x, y), tuple(place for place, in asked))
                self.assertEqual(meets(book, x, x), (x,))
                met.add(len(near))
        self.assertLessEqual({0, 1}, met)
        rows = tuple(('put', 'row', row) for row in ((3, 1), (3, 2), (4, 1), (4, 2), (1, 0), (2, 0)))
        book = booked(KEEPER, 5, rows)
        self.assertEqual((meets(book, 3, 4), meets(book, 4, 3), meets(book, 1, 2), meets(book, 4, 2)), ((1, 2), (1, 2), (0,), (2,)))

    def test_wrong_kinds_of_values(self):
        book = booked(KEEPER, 4, tuple(('put', 'row', row) for row in ((0, 1), (1, 2), (2, 3), (0, 3))))
        values = odd_values() + odd_objects() + [
            [0, 1, 2, 3], (0, True, 2, 3), (False, 1, 2, 3), (0, 1, 2, 3, 4), (0, '1', 2, 3), (0, None, 3), '0123', (0, (1,), 3),
            (-4, 3), (0, 1, 2, 3, 3), (0, 0, 3), (), {0: 3}, (0, [1], 2, 3), ((0, 3),), (3,), (0,), 3, (3, 2, 1, 0), (0, 2, 3),
        ]
        self.assertIs(shows_way(book, 0, 3, (0, 1, 2, 3)), True)
        self.assertIs(shows_way(book, 0, 3, (0, 3)), True)
        for value in values:
            self.assertIs(shows_way(book, 0, 3, value), False, value)
            self.assertIs(shows_ring(book, 3, 0, value), False, value)
            self.assertIs(shows_in_sequence(book, value), False, value)
        for value in ([3], [2, 3], (True, 2, 3), (3, 2, 1), (1, 2, 2, 3), (1, 2), (2, 3, 4), (1, 3), (), (0, 1, 2, 3), ((1, 2, 3),)):
            self.assertIs(shows_cut(book, 1, 0, value), False, value)
        for value in odd_values() + odd_objects():
            self.assertIs(shows_cut(book, 1, 0, value), False, value)
        self.assertIs(shows_cut(book, 1, 0, (1, 2, 3)), True)
        for value in ([0, 1, 2, 3], (0, 1, 2), (0, 1, 2, 3, 0), (0, True, 2, 3), (0, 1, 3, 2), (1, 0, 2, 3), (0, 1, 1, 3)):
            self.assertIs(shows_in_sequence(book, value), False, value)
        self.assertIs(shows_in_sequence(book, (0, 1, 2, 3)), True)

    def test_the_book_stays_as_it_was(self):
        book = booked(KEEPER, 3, (('put', 'row', (0, 1)), ('put', 'row', (1, 2))))
        same = book.copy()
        told = [way(book, 0, 2), cut(book, 2, 0), in_sequence(book), ring(book, 2, 0), meets(book, 0, 1),
                shows_way(book, 0, 2, None), shows_cut(book, 2, 0, None), shows_in_sequence(book, None), shows_ring(book, 2, 0, None)]
        self.assertEqual(told, [way(same, 0, 2), cut(same, 2, 0), in_sequence(same), ring(same, 2, 0), meets(same, 0, 1)] + [False] * 4)
        self.assertEqual((book, book.store, book.kept), (same, same.store, same.kept))

    def test_arguments_by_name(self):
        book = booked(KEEPER, 2, (('put', 'row', (0, 1)),))
        self.assertEqual(way(y=1, x=0, book=book), (0, 1))
        self.assertIs(shows_way(value=(0, 1), y=1, x=0, book=book), True)
        self.assertEqual(cut(y=0, x=1, book=book), (1,))
        self.assertIs(shows_cut(value=(1,), y=0, x=1, book=book), True)
        self.assertEqual(in_sequence(book=book), (0, 1))
        self.assertIs(shows_in_sequence(value=(0, 1), book=book), True)
        self.assertEqual(ring(q=0, p=1, book=book), (0, 1))
        self.assertIs(shows_ring(value=(0, 1), q=0, p=1, book=book), True)
        self.assertEqual(meets(y=1, x=0, book=book), (1,))


class RefusedGoing(Refusals):
    book = booked(KEEPER, 3, (('put', 'row', (0, 1)),))
    of_two = [way, cut, ring, meets]
    shows_of_two = [shows_way, shows_cut, shows_ring]

    def check_all(self, kind, value, book, x=0, y=1):
        for call in self.of_two:
            self.check(kind, value, call, book, x, y)
        for call in self.shows_of_two:
            self.check(kind, value, call, book, x, y, None)
        if x == 0 and y == 1 and type(x) is int and type(y) is int:
            self.check(kind, value, in_sequence, book)
            self.check(kind, value, shows_in_sequence, book, None)

    def test_what_is_no_book(self):
        for value in odd_objects() + [KEEPER]:
            if not isinstance(value, Book):
                self.check_all(NoBook, value, value)
                self.check_all(NoBook, value, value, None, 7)

    def test_books_of_other_keepers(self):
        text = '\n'.join(lines_of('going'))
        others = [web_keeper(), Keeper(text.replace('bar go q p\n', '')), Keeper(text.rsplit('\n', 1)[0]), Keeper('told a 0\nanswer is a')]
        for keeper in others:
            self.check_all(NotGoing, keeper.text, Book(keeper, 3))
            self.check_all(NotGoing, keeper.text, Book(keeper, 3), 7, None)
        self.assertEqual(way(Book(Keeper(text), 3), 1, 1), (1,))

    def test_places_that_are_none(self):
        for value in odd_objects() + [3, -1, True, False, '0', (0,), [0], None, 10 ** 8]:
            if not (type(value) is int and 0 <= value < 3):
                self.check_all(BadPlace, value, self.book, value, 1)
                self.check_all(BadPlace, value, self.book, value, 8)
                self.check_all(BadPlace, value, self.book, 0, value)

    def test_the_first_that_is_listed(self):
        self.check(BadPlace, 5, way, self.book, 5, 6)
        self.check(BadPlace, 6, way, self.book, 1, 6)
        self.check(NoWay, (1, 0), way, self.book, 1, 0)
        self.check(IsWay, (0, 1), cut, self.book, 0, 1)
        self.check(IsWay, (1, 1), cut, self.book, 1, 1)
        self.check(NotBarred, (0, 2), ring, self.book, 0, 2)
        self.check(NotBarred, (0, 2), shows_ring, self.book, 0, 2, (2, 0))
        self.assertEqual(meets(self.book, 1, 0), (1,))
