"""Sections 10 and 3 (d): places numbered as they were used, beside plain counting."""

import itertools
import random
import unittest

from tests.plain import plain_answer
from tests.plain_keepers import PlainBook, all_changes, random_change
from tests.plain_webs import lines_of
from tests.refusing import Refusals, odd_objects, refused
from withoutloops.asks import Question
from withoutloops.books import Book, booked
from withoutloops.engines import answered
from withoutloops.errors import BadNumber, BadPlace, NoBook, NoWish, NotNumbers, NotUsed
from withoutloops.going import going_keeper
from withoutloops.keepers import Keeper
from withoutloops.numbers import (
    evenly, how_many, number_keeper, number_of, over_half, place_of, product, summed, used,
)

KEEPER = number_keeper()
TABLES = KEEPER.told + KEEPER.kept
OVER_HALF = Question((), lines_of('over_half')[0], TABLES, 0)
EVENLY = [Question((), text, TABLES, 0) for text in ['yes'] + lines_of('evenly')]


def put(*places):
    return tuple(('put', 'in', (place,)) for place in places)


def strike(*places):
    return tuple(('strike', 'in', (place,)) for place in places)


class Plain:
    """The used places in sequence, and those that stand."""

    def __init__(self, changes):
        self.used, self.standing = [], set()
        for word, _, (place,) in changes:
            if word == 'put':
                self.standing.add(place)
                if place not in self.used:
                    self.used.append(place)
            else:
                self.standing.discard(place)

    def place(self, number):
        return self.used[number] if number < len(self.used) else None

    def triples(self, work):
        numbered = list(enumerate(self.used))
        return tuple(sorted(
            (x, y, z) for at, x in numbered for by, y in numbered for to, z in numbered if to == work(at, by)
        ))


class Kept(unittest.TestCase):
    """Section 3 (d), and all looks, behind each change."""

    def check_book(self, book):
        plain = Plain(book.changes)
        numbered = list(enumerate(plain.used))
        self.assertEqual(book.table('used'), tuple(sorted((place,) for place in plain.used)))
        ordered = sorted((x, y) for at, x in numbered for by, y in numbered if at < by)
        self.assertEqual(book.table('ord'), tuple(ordered))
        self.assertEqual(book.table('plus'), plain.triples(lambda at, by: at + by))
        self.assertEqual(book.table('times'), plain.triples(lambda at, by: at * by))
        many = len(plain.standing)
        count = () if plain.place(many) is None else ((plain.place(many),),)
        self.assertEqual((book.table('cnt'), book.answer), (count, count))
        self.check_looks(book, plain)

    def check_looks(self, book, plain):
        many, n = len(plain.standing), book.n
        self.assertEqual(used(book), tuple(plain.used))
        self.assertEqual((type(how_many(book)), how_many(book)), (int, many))
        self.assertIs(over_half(book), many * 2 > len(plain.used))
        self.assertEqual([evenly(book, k) for k in (1, 2, 3)], [True, many % 2 == 0, many % 3 == 0])
        self.assertTrue(all(type(evenly(book, k)) is bool for k in (1, 2, 3)))
        for number in range(n + 1):
            if number < len(plain.used):
                self.assertEqual(place_of(book, number), plain.used[number])
            else:
                self.assertEqual(refused(place_of, book, number), (BadNumber, number))
        for place in range(n):
            if place in plain.used:
                self.assertEqual(number_of(book, place), plain.used.index(place))
            else:
                self.assertEqual(refused(number_of, book, place), (NotUsed, place))
        for x, y in itertools.product(range(n), repeat=2):
            unused = [place for place in (x, y) if place not in plain.used]
            if unused:
                self.assertEqual(refused(summed, book, x, y), (NotUsed, unused[0]))
                self.assertEqual(refused(product, book, x, y), (NotUsed, unused[0]))
            else:
                one, other = plain.used.index(x), plain.used.index(y)
                self.assertEqual(summed(book, x, y), plain.place(one + other))
                self.assertEqual(product(book, x, y), plain.place(one * other))

    def check_questions(self, book):
        """Beside the questions that section 10 tells for them."""
        store = book.store + book.kept
        self.assertIs(over_half(book), answered(OVER_HALF, book.n, store, ()) == ((),))
        for k, question in enumerate(EVENLY, 1):
            self.assertIs(evenly(book, k), answered(question, book.n, store, ()) == ((),))

    def test_histories(self):
        rng = random.Random(101)
        met = []
        for n, times in ((1, 3), (2, 6), (3, 12), (4, 14), (5, 16)):
            for _ in range(times):
                book = Book(KEEPER, n)
                self.check_book(book)
                for _ in range(16):
                    change = random_change(rng, KEEPER.told, n)
                    met.append(book.do(change))
                    self.check_book(book)
                    self.check_questions(book)
        self.assertTrue(met.count(True) > 300 and met.count(False) > 200)

    def test_all_they_come_to_over_three_places(self):
        books, met = [Book(KEEPER, 3)], set()
        for book in books:
            self.check_book(book)
            self.check_questions(book)
            for change in all_changes(KEEPER.told, 3):
                other = book.copy()
                other.do(change)
                if (other.store, other.kept) not in met:
                    met.add((other.store, other.kept))
                    books.append(other)
        # Of each sequence of used places, and each of those that stand: 1 + 3 * 2 + 6 * 4 + 6 * 8.
        self.assertEqual(len(met | {(books[0].store, books[0].kept)}), 1 + 3 * 2 + 6 * 4 + 6 * 8)

    def test_all_sequences_of_five_places(self):
        for places in itertools.permutations(range(5)):
            self.check_book(booked(KEEPER, 5, put(*places)))

    def test_over_half_and_evenly_of_all_that_five_places_can_have(self):
        for many in range(6):
            for standing in range(many + 1):
                book = booked(KEEPER, 5, put(*range(many)) + strike(*range(standing, many)))
                self.assertIs(over_half(book), standing * 2 > many)
                self.assertEqual([evenly(book, k) for k in (1, 2, 3)], [standing % k == 0 for k in (1, 2, 3)])
                self.check_questions(book)

    def test_beside_a_plain_doing(self):
        rng = random.Random(102)
        for n, many in ((2, 8), (3, 8)):
            plain, book = PlainBook(KEEPER.text, n), Book(KEEPER, n)
            for _ in range(many):
                change = random_change(rng, KEEPER.told, n)
                self.assertEqual(plain.do(change), book.do(change))
                self.assertEqual(book.kept, plain.store_of([name for name, _ in KEEPER.kept]))
            self.assertIs(over_half(book), plain_answer(OVER_HALF, n, book.store + book.kept, ()) == ((),))


class Histories(unittest.TestCase):
    def test_two_histories_to_one_store(self):
        rng = random.Random(103)
        for _ in range(40):
            places = rng.sample(range(5), rng.randint(2, 5))
            gone = rng.sample(places, rng.randint(0, len(places)))
            other = rng.sample(places, len(places))
            one = booked(KEEPER, 5, put(*places) + strike(*gone))
            two = booked(KEEPER, 5, put(*other) + strike(*gone[::-1]))
            self.assertEqual(one.store, two.store)
            told = [how_many(one), over_half(one)] + [evenly(one, k) for k in (1, 2, 3)]
            self.assertEqual(told, [how_many(two), over_half(two)] + [evenly(two, k) for k in (1, 2, 3)])
            self.assertEqual((used(one), used(two)), (tuple(places), tuple(other)))
            self.assertEqual(one.kept == two.kept, places == other)

    def test_places_stay_used(self):
        book = booked(KEEPER, 4, put(2, 0) + strike(2, 0) + put(0, 3))
        self.assertEqual((used(book), how_many(book), book.table('in')), ((2, 0, 3), 2, ((0,), (3,))))
        self.assertEqual((number_of(book, 2), place_of(book, 2), over_half(book)), (0, 3, True))
        self.assertIs(over_half(booked(KEEPER, 4, put(2, 0) + strike(2))), False)

    def test_a_new_book(self):
        for n in range(1, 6):
            book = Book(KEEPER, n)
            self.assertEqual((used(book), how_many(book), over_half(book)), ((), 0, False))
            self.assertEqual([evenly(book, k) for k in (1, 2, 3)], [True] * 3)
            self.assertEqual(refused(book.wished), (NoWish, None))

    def test_the_book_stays_as_it_was(self):
        book = booked(KEEPER, 4, put(2, 0, 3) + strike(2))
        same = book.copy()
        for _ in range(2):
            told = [used(book), number_of(book, 3), place_of(book, 1), how_many(book), summed(book, 0, 0), product(book, 3, 0),
                    over_half(book), evenly(book, 3)]
            self.assertEqual(told, [(2, 0, 3), 2, 0, 2, 3, 3, True, False])
            self.assertEqual((book, book.kept, book.store), (same, same.kept, same.store))

    def test_arguments_by_name(self):
        book = booked(KEEPER, 4, put(2, 0, 3) + strike(2))
        told = [used(book=book), number_of(place=3, book=book), place_of(number=1, book=book), how_many(book=book),
                summed(y=0, x=0, book=book), product(y=0, x=3, book=book), over_half(book=book), evenly(k=3, book=book)]
        self.assertEqual(told, [(2, 0, 3), 2, 0, 2, 3, 3, True, False])


class RefusedNumbers(Refusals):
    book = booked(KEEPER, 4, put(2, 0))

    def check_all(self, kind, value, book):
        for call in (used, how_many, over_half):
            self.check(kind, value, call, book)
        for call in (number_of, place_of, evenly):
            self.check(kind, value, call, book, None)
        for call in (summed, product):
            self.check(kind, value, call, book, None, 7)

    def test_what_is_no_book(self):
        for value in odd_objects() + [KEEPER]:
            if not isinstance(value, Book):
                self.check_all(NoBook, value, value)

    def test_books_of_other_keepers(self):
        text = KEEPER.text
        for keeper in (going_keeper(), Keeper(text.replace('answer x is cnt x', 'answer x is in x')), Keeper(text + '\nwish x is in x')):
            self.check_all(NotNumbers, keeper.text, Book(keeper, 3))
        self.assertEqual(used(Book(Keeper(text), 3)), ())

    def test_places_that_are_none(self):
        for value in odd_objects() + [4, -1, True, False, '0', (0,), None, 10 ** 8]:
            if not (type(value) is int and 0 <= value < 4):
                self.check(BadPlace, value, number_of, self.book, value)
                for call in (summed, product):
                    self.check(BadPlace, value, call, self.book, value, 9)
                    self.check(BadPlace, value, call, self.book, 1, value)

    def test_numbers_that_are_none(self):
        for value in odd_objects() + [2, 3, -1, True, False, '0', (0,), None]:
            if not (type(value) is int and 0 <= value < 2):
                self.check(BadNumber, value, place_of, self.book, value)
        for value in odd_objects() + [0, 4, -1, True, False, '1', (1,), None, 10 ** 8]:
            self.check(BadNumber, value, evenly, self.book, value)
        self.check(BadNumber, 0, place_of, Book(KEEPER, 4), 0)

    def test_the_first_that_is_listed(self):
        for call in (summed, product):
            self.assertEqual(refused(call, self.book, 5, 6), (BadPlace, 5))
            self.assertEqual(refused(call, self.book, 1, 6), (BadPlace, 6))
            self.assertEqual(refused(call, self.book, 3, 1), (NotUsed, 3))
            self.assertEqual(refused(call, self.book, 2, 1), (NotUsed, 1))
        self.assertEqual(refused(number_of, self.book, 1), (NotUsed, 1))
        self.assertEqual(refused(number_of, self.book, 4), (BadPlace, 4))
