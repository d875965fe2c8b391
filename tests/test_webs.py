"""Sections 9 and 3 (c): webs of ties, their forests and their sides, beside going through their ties."""

import itertools
import random
import unittest

from tests.plain_keepers import PlainBook, all_changes
from tests.plain_webs import all_ties, has_sides, is_forest as is_plain_forest, joined, least_forest, parts_of, way_in
from tests.refusing import Refusals, odd_objects, refused
from withoutloops.books import Book, booked, first_wrong, is_right
from withoutloops.errors import (
    BadPlace, BadRows, BadSize, Barred, NoBook, NoRing, NotTree, NotWeb, NoWay, OddRing,
)
from withoutloops.going import going_keeper
from withoutloops.keepers import Keeper
from withoutloops.webs import (
    forest, is_forest, joins_again, least_keeper, odd_ring, part_of, parts, path, shows_odd_ring, side_keeper, two_sides, web_keeper,
)

KEEPERS = {'web': web_keeper(), 'side': side_keeper(), 'least': least_keeper()}
NO_TIES = [(1, 0), (2, 2), (0, 0)]


def random_tie_change(rng, n):
    row = tuple(rng.randrange(n) for _ in range(2))
    if row[0] > row[1] and rng.random() < 0.8:
        row = row[::-1]
    return rng.choice(['put', 'put', 'strike']), 'tie', row


def random_book(rng, keeper, n, many):
    book = Book(keeper, n)
    for _ in range(many):
        refused(book.do, random_tie_change(rng, n))
    return book


def ties_of(book):
    return book.table('tie')


class Kept(unittest.TestCase):
    """Section 3 (c): what stands behind each change."""

    def check_book(self, name, book):
        ties, tree, n = ties_of(book), book.table('tree'), book.n
        self.assertTrue(is_plain_forest(ties, tree, n), (name, ties, tree))
        ways = {(one, other): way_in(tree, one, other, n) or () for one in range(n) for other in range(n)}
        mid = sorted((one, other, place) for one, other in ways for place in ways[one, other])
        self.assertEqual(book.table('mid'), tuple(mid), name)
        if name == 'web':
            answer = tuple((one, other) for one in range(n) for other in sorted(joined(ties, one, n)))
        elif name == 'least':
            answer = least_forest(ties, n)
            self.assertEqual(tree, answer)
        else:
            answer = ((),) if has_sides(ties, n) else ()
            odd = tuple(pair for pair in sorted(ways) if len(ways[pair]) % 2 == 0 and ways[pair])
            self.assertEqual(book.table('odd'), odd)
        self.assertEqual((book.answer, book.wished()), (answer, answer), name)
        self.assertIs(is_right(book), True)

    def test_histories(self):
        rng = random.Random(91)
        met = []
        for name, keeper in KEEPERS.items():
            for n, times in ((1, 2), (2, 4), (3, 8), (4, 8), (5, 8)):
                for _ in range(times):
                    book, ties = Book(keeper, n), set()
                    for _ in range(25):
                        word, _, row = change = random_tie_change(rng, n)
                        try:
                            told = book.do(change)
                        except Barred as error:
                            self.assertEqual(error.value, book.keeper.text.split('\n').index('bar not less p q') + 1)
                            told = 'barred'
                        wrong = word == 'put' and row[0] >= row[1]
                        self.assertEqual(told, 'barred' if wrong else (row in ties) == (word == 'strike'))
                        met.append(told)
                        if told is True:
                            (ties.add if word == 'put' else ties.remove)(row)
                        self.assertEqual(set(ties_of(book)), ties)
                        self.check_book(name, book)
                    self.assertIsNone(first_wrong(keeper, n, book.changes))
        for told in (True, False, 'barred'):
            self.assertGreater(met.count(told), 200)

    def test_all_they_come_to_over_three_places(self):
        for name, keeper in KEEPERS.items():
            books, met = [Book(keeper, 3)], set()
            for book in books:
                self.check_book(name, book)
                for change in all_changes(keeper.told, 3):
                    other = book.copy()
                    if not refused(other.do, change) and (other.store, other.kept) not in met:
                        met.add((other.store, other.kept))
                        books.append(other)
            self.assertEqual(len(met), 8 if name == 'least' else 10)

    def test_beside_a_plain_doing(self):
        rng = random.Random(92)
        for name, keeper in KEEPERS.items():
            plain, book = PlainBook(keeper.text, 3), Book(keeper, 3)
            for _ in range(14):
                change = random_tie_change(rng, 3)
                told = refused(book.do, change)
                self.assertEqual(plain.do(change) in (True, False), told is None)
                self.assertEqual(book.store, plain.store_of(['tie']))
                self.assertEqual(book.kept, plain.store_of([table for table, _ in keeper.kept]))


class Results(unittest.TestCase):
    def each_book(self, seed, times, sizes=(1, 2, 3, 4, 5)):
        rng = random.Random(seed)
        for keeper in KEEPERS.values():
            for n in sizes:
                for _ in range(times):
                    yield random_book(rng, keeper, n, rng.randint(0, 3 * n))

    def test_forests_paths_and_parts(self):
        lengths = set()
        for book in self.each_book(93, 8):
            ties, n = ties_of(book), book.n
            self.assertEqual(forest(book), book.table('tree'))
            self.assertEqual(parts(book), parts_of(ties, n))
            for x in range(n):
                self.assertEqual(part_of(book, x), tuple(sorted(joined(ties, x, n))))
                for y in range(n):
                    told = way_in(forest(book), x, y, n)
                    if told is None:
                        self.assertEqual(refused(path, book, x, y), (NoWay, (x, y)))
                    else:
                        self.assertEqual(path(book, x, y), told)
                        lengths.add(len(told))
                self.assertEqual(path(book, x, x), (x,))
        self.assertLessEqual({1, 2, 3, 4}, lengths)

    def test_the_longest_path(self):
        for keeper in KEEPERS.values():
            book = booked(keeper, 5, tuple(('put', 'tie', tie) for tie in ((1, 4), (0, 4), (0, 3), (2, 3))))
            self.assertEqual((path(book, 1, 2), path(book, 2, 1)), ((1, 4, 0, 3, 2), (2, 3, 0, 4, 1)))

    def test_two_sides_and_odd_rings(self):
        met = []
        for book in self.each_book(94, 14):
            ties, n = ties_of(book), book.n
            met.append(has_sides(ties, n))
            if met[-1]:
                told = two_sides(book)
                one, other = told
                self.assertIs(type(told), tuple)
                self.assertEqual((one, other), (tuple(sorted(one)), tuple(sorted(other))))
                self.assertEqual(sorted(one + other), list(range(n)))
                self.assertTrue(all((first in one) != (second in one) for first, second in ties))
                self.assertTrue(all(part[0] in one for part in parts_of(ties, n)))
                self.assertEqual(refused(odd_ring, book), (NoRing, None))
                self.assertEqual(refused(shows_odd_ring, book, (0, 1, 2, 0)), (NoRing, None))
            else:
                told = odd_ring(book)
                self.assertIs(type(told), tuple)
                self.assertTrue(self.is_odd_ring(book, told), told)
                self.assertIs(shows_odd_ring(book, told), True)
                self.assertEqual(refused(two_sides, book), (OddRing, None))
        self.assertGreater(met.count(True), 50)
        self.assertGreater(met.count(False), 12)

    def is_odd_ring(self, book, value):
        if len(value) < 4 or len(value) % 2 or value[0] != value[-1]:
            return False
        return all(tuple(sorted(pair)) in ties_of(book) for pair in zip(value, value[1:]))

    def test_all_that_is_shown(self):
        webs = [
            (3, ((0, 1), (0, 2), (1, 2))), (4, ((0, 1), (0, 2), (1, 2), (2, 3))), (4, ((0, 1), (1, 3), (0, 3))),
            (4, tuple(all_ties(4))),
        ]
        for n, ties in webs:
            for keeper in KEEPERS.values():
                book = booked(keeper, n, tuple(('put', 'tie', tie) for tie in ties))
                for many in range(7 if n == 3 else 6):
                    for value in itertools.product(range(n), repeat=many):
                        self.assertIs(shows_odd_ring(book, value), self.is_odd_ring(book, value), value)

    def test_a_long_odd_ring(self):
        ring = ((0, 1), (1, 2), (2, 3), (3, 4), (0, 4))
        book = booked(side_keeper(), 5, tuple(('put', 'tie', tie) for tie in ring))
        self.assertEqual(len(odd_ring(book)), 6)
        for value in ((0, 1, 2, 3, 4, 0), (3, 2, 1, 0, 4, 3), (0, 1, 0, 1, 2, 3, 4, 0)):
            self.assertIs(shows_odd_ring(book, value), True)
        for value in ((0, 1, 2, 3, 4), (0, 1, 2, 3, 4, 1), (0, 1, 2, 3, 0), (0, 1, 2, 0), (0, 1, 0, 1), (0, 1, 2, 3, 4, 0, 1, 0, 1)):
            self.assertIs(shows_odd_ring(book, value), False)

    def test_wrong_kinds_of_values(self):
        book = booked(web_keeper(), 3, tuple(('put', 'tie', tie) for tie in all_ties(3)))
        values = odd_objects() + [
            [0, 1, 2, 0], (0, True, 2, 0), (False, 1, 2, False), (0, 1, 2), (0, 1, 2, 0, 1), (0, 1, 3, 0), (0, 1, -1, 0), '0120',
            (0, 0, 1, 0), (0, 1, 1, 0), (0, 1, 2, None), (), (0,), (0, 0), (0, 1), (0, 1, 0), ((0, 1), (1, 2), (0, 2), (0, 1)), (0, '1', 2, 0),
        ]
        for value in values:
            self.assertIs(shows_odd_ring(book, value), False, value)
        self.assertIs(shows_odd_ring(book, (0, 1, 2, 0)), True)

    def test_joins_again(self):
        met = []
        for book in self.each_book(95, 8, (2, 3, 4, 5)):
            for p, q in forest(book):
                struck = book.copy()
                struck.strike('tie', (p, q))
                fresh = set(forest(struck)) - set(forest(book))
                told = joins_again(book, p, q)
                self.assertEqual(fresh, set() if told is None else {told})
                met.append(told is None)
                # It is the least of those that join both sides.
                left = set(forest(book)) - {(p, q)}
                joins = [tie for tie in ties_of(book) if tie != (p, q) and (p, q) != tie and q in joined(left | {tie}, p, book.n)]
                self.assertEqual(told, min(joins) if joins else None)
        self.assertTrue(met.count(True) > 20 and met.count(False) > 20)

    def test_ties_that_are_none_of_the_forest(self):
        book = booked(web_keeper(), 4, tuple(('put', 'tie', tie) for tie in ((0, 1), (1, 2), (0, 2))))
        self.assertEqual(forest(book), ((0, 1), (1, 2)))
        pairs = [(0, 2), (1, 0), (2, 1), (0, 3), (0, 0), (0, 4), (-1, 1), (True, 2), (0, True), (False, 1), (None, None), ('0', 1),
                 ((0, 1), (1, 2)), ([0], [1]), ({}, 1), (0, (1,))]
        for p, q in pairs + list(zip(odd_objects(), odd_objects()[::-1])):
            told = refused(joins_again, book, p, q)
            self.assertIsNotNone(told, (p, q))
            self.assertIs(told[0], NotTree)
            self.assertIs(type(told[1]), tuple)
            self.assertTrue(len(told[1]) == 2 and told[1][0] is p and told[1][1] is q)
        self.assertEqual((joins_again(book, 0, 1), joins_again(book, 1, 2)), ((0, 2), (0, 2)))

    def test_the_book_stays_as_it_was(self):
        book = booked(side_keeper(), 4, tuple(('put', 'tie', tie) for tie in ((0, 1), (1, 2), (0, 2))))
        same = book.copy()
        for _ in range(2):
            self.assertEqual((forest(book), path(book, 0, 2), part_of(book, 3), parts(book), joins_again(book, 0, 1)),
                             (((0, 1), (1, 2)), (0, 1, 2), (3,), ((0, 1, 2), (3,)), (0, 2)))
            self.assertIs(shows_odd_ring(book, odd_ring(book)), True)
            self.assertEqual((book, book.store, book.kept, book.answer), (same, same.store, same.kept, same.answer))

    def test_arguments_by_name(self):
        book = booked(web_keeper(), 3, tuple(('put', 'tie', tie) for tie in all_ties(3)))
        self.assertEqual((forest(book=book), path(y=2, x=1, book=book), part_of(x=1, book=book), parts(book=book)),
                         (((0, 1), (0, 2)), (1, 0, 2), (0, 1, 2), ((0, 1, 2),)))
        self.assertIs(is_forest(value=(), rows=(), n=1), True)
        self.assertIs(shows_odd_ring(value=odd_ring(book=book), book=book), True)
        self.assertEqual(joins_again(q=1, p=0, book=book), (1, 2))
        self.assertEqual(two_sides(book=Book(web_keeper(), 3)), ((0, 1, 2), ()))


class IsForest(unittest.TestCase):
    def test_all_small_ones(self):
        for n in (1, 2, 3, 4):
            ties = all_ties(n)
            webs = [web for many in range(len(ties) + 1) for web in itertools.combinations(ties, many)]
            for rows, value in itertools.product(webs, repeat=2):
                self.assertIs(is_forest(n, rows, value), is_plain_forest(rows, value, n), (rows, value))

    def test_over_five_places(self):
        rng = random.Random(96)
        right = 0
        for _ in range(1500):
            ties = all_ties(5)
            rows = tuple(tie for tie in ties if rng.random() < 0.5)
            value = tuple(tie for tie in rows if rng.random() < 0.7)
            told = is_forest(5, rows, value)
            self.assertIs(told, is_plain_forest(rows, value, 5))
            right += told
            self.assertIs(is_forest(5, rows, least_forest(rows, 5)), True)
        self.assertGreater(right, 50)

    def test_values_of_every_kind(self):
        rows = ((0, 1), (0, 2), (1, 2))
        values = odd_objects() + [
            ((0, 2), (0, 1)), ((0, 1), (0, 1), (0, 2)), [(0, 1), (0, 2)], ([0, 1], (0, 2)), ((0, 1), [0, 2]), ((0, True), (0, 2)),
            ((False, 1), (0, 2)), ((0, 1), (2, 0)), ((0, 1), (0, 3)), ((0, 1), (0, 2), None), (0, 1), '01', ((0, 1), (0, 2), (1, 1)),
            ((0, 1, 2),), ((0, 1), ()), {(0, 1): 1}, ((0, 1), (0, 2), (1, 2)), ((0, 1),), (), ((0, '1'), (0, 2)), None, True,
        ]
        for value in values:
            self.assertIs(is_forest(4, rows, value), False, value)
        for value in itertools.combinations(rows, 2):
            self.assertIs(is_forest(4, rows, value), True)
        self.assertIs(is_forest(5, (), ()), True)

    def test_refusals(self):
        rows = ((0, 1), (0, 2))
        for value in odd_objects() + [0, 6, True, '3']:
            told = refused(is_forest, value, None, None)
            self.assertIs(told[0], BadSize)
            self.assertIs(told[1], value)
        bad = [value for value in odd_objects() if value != ()] + [
            ((0, 2), (0, 1)), ((0, 1), (0, 1)), list(rows), ([0, 1], (0, 2)), ((0, 1), (1, 0)), ((0, 1), (1, 1)), ((0, 3),),
            ((0, True),), ((-1, 0),), ((0, 1), (0, 2), (1, 2), (1, 3)), (0, 1), '', {}, ((0, 1), None), ((0,),), ((0, 1, 2),), ((1, 0),),
        ]
        for value in bad:
            for result in ((), rows, None):
                told = refused(is_forest, 3, value, result)
                self.assertIsNotNone(told, value)
                self.assertIs(told[0], BadRows)
                self.assertIs(told[1], value)
        self.assertEqual(refused(is_forest, 2, rows, rows), (BadRows, rows))


class RefusedWebs(Refusals):
    book = booked(web_keeper(), 3, (('put', 'tie', (0, 1)),))
    alone = [forest, parts, two_sides, odd_ring]

    def check_all(self, kind, value, book):
        for call in self.alone:
            self.check(kind, value, call, book)
        self.check(kind, value, path, book, None, 7)
        self.check(kind, value, part_of, book, None)
        self.check(kind, value, shows_odd_ring, book, None)
        self.check(kind, value, joins_again, book, None, 7)

    def test_what_is_no_book(self):
        for value in odd_objects() + list(KEEPERS.values()):
            if not isinstance(value, Book):
                self.check_all(NoBook, value, value)

    def test_books_of_other_keepers(self):
        text = web_keeper().text
        for keeper in (going_keeper(), Keeper(text.replace('bar not less p q\n', '')), Keeper(text.rsplit('\n', 1)[0])):
            self.check_all(NotWeb, keeper.text, Book(keeper, 3))
        for keeper in KEEPERS.values():
            self.assertEqual(forest(Book(Keeper(keeper.text), 3)), ())

    def test_places_that_are_none(self):
        for value in odd_objects() + [3, -1, True, False, '0', (0,), None]:
            if not (type(value) is int and 0 <= value < 3):
                self.check(BadPlace, value, path, self.book, value, None)
                self.check(BadPlace, value, path, self.book, 0, value)
                self.check(BadPlace, value, part_of, self.book, value)

    def test_the_first_that_is_listed(self):
        self.check(BadPlace, 5, path, self.book, 5, 6)
        self.check(NoWay, (0, 2), path, self.book, 0, 2)
        self.check(NoRing, None, shows_odd_ring, self.book, (0, 1, 2, 0))

    def test_ties_that_are_barred(self):
        for keeper in KEEPERS.values():
            book = Book(keeper, 3)
            for row in NO_TIES:
                self.assertEqual(refused(book.put, 'tie', row)[0], Barred)
                self.assertIs(book.strike('tie', row), False)
            self.assertEqual(ties_of(book), ())
