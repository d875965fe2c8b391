"""Sections 11 and 3 (e): words that are kept letter by letter, beside reading them sign by sign."""

import itertools
import random
import unittest

from tests.plain_keepers import PlainBook, all_changes, random_change
from tests.plain_machines import BAD_MACHINES, EVEN, FOUR, THREE, plain_reads, small_machines, state_behind
from tests.refusing import Refusals, odd_objects, refused
from withoutloops.books import Book, booked
from withoutloops.errors import (
    BadMachine, BadPlace, BadSize, BadState, BadWord, Barred, NoBook, NotWords,
)
from withoutloops.going import going_keeper
from withoutloops.keepers import Keeper
from withoutloops.words import between, letters, reads, word_keeper, word_of


class Kept(unittest.TestCase):
    """Section 3 (e), and what always stands in each kept table."""

    def check_book(self, machine, book, at):
        """at tells which sign stands at each place."""
        n, states = book.n, range(machine[0])
        word = tuple(at[place] for place in sorted(at))
        self.assertEqual(book.answer, ((),) if plain_reads(machine, word) else ())
        self.assertEqual(word_of(machine, book), word)
        ahead = [tuple(at[place] for place in sorted(at) if place < x) for x in range(n)]
        behind = [tuple(at[place] for place in sorted(at) if place > x) for x in range(n)]
        inside = {(x, y): tuple(at[place] for place in sorted(at) if x < place < y) for x in range(n) for y in range(n)}
        for one in states:
            for other in states:
                rows = tuple(pair for pair in sorted(inside) if pair[0] < pair[1] and state_behind(machine, one, inside[pair]) == other)
                self.assertEqual(book.table(f'm{one}{other}'), rows)
            self.assertEqual(book.table(f'f{one}'), tuple((x,) for x in range(n) if state_behind(machine, machine[1], ahead[x]) == one))
            self.assertEqual(book.table(f't{one}'), tuple((x,) for x in range(n) if state_behind(machine, one, behind[x]) in machine[2]))
            for x, y in inside:
                self.assertEqual(between(machine, book, x, y, one), state_behind(machine, one, inside[x, y]))

    def history(self, rng, machine, n, many):
        keeper = word_keeper(machine)
        book, at, met = Book(keeper, n), {}, []
        self.check_book(machine, book, at)
        for _ in range(many):
            word, sign, (place,) = change = random_change(rng, keeper.told, n)
            try:
                told = book.do(change)
            except Barred as error:
                told = 'barred'
                lines = keeper.text.split('\n')
                self.assertEqual(error.value, lines.index(f'put {sign}') + 2)
            if word == 'put':
                self.assertEqual(told, 'barred' if at.get(place, sign) != sign else place not in at)
                at.setdefault(place, sign)
            else:
                self.assertEqual(told, at.get(place) == sign)
                if told:
                    del at[place]
            met.append(told)
            self.check_book(machine, book, at)
        return met

    def test_histories(self):
        rng = random.Random(111)
        met = []
        machines = [EVEN, THREE]
        for states, signs in itertools.product((1, 2, 3), (('a',), ('b', 'a'), ('z', 'm', 't'))):
            machines += list(small_machines(states, signs))[:5]
        for machine in machines:
            for n in (1, 2, 3, 4, 5):
                met += self.history(rng, machine, n, 9)
        for told in (True, False, 'barred'):
            self.assertGreater(met.count(told), 100)

    def test_all_they_come_to_over_three_places(self):
        for machine in (EVEN, (2, 0, (1,), ('a', 'b'), ((0, 1), (0, 1))), (3, 0, (1,), ('k',), ((1,), (2,), (0,)))):
            books, met = [Book(word_keeper(machine), 3)], set()
            for book in books:
                at = {place: sign for sign, rows in book.store for place, in rows}
                self.check_book(machine, book, at)
                for change in all_changes(book.keeper.told, 3):
                    other = book.copy()
                    if not refused(other.do, change) and (other.store, other.kept) not in met:
                        met.add((other.store, other.kept))
                        books.append(other)
            self.assertEqual(len(met), (len(machine[3]) + 1) ** 3)

    def test_beside_a_plain_doing(self):
        rng = random.Random(112)
        for machine in (EVEN, THREE):
            keeper = word_keeper(machine)
            plain, book = PlainBook(keeper.text, 3), Book(keeper, 3)
            for _ in range(12):
                change = random_change(rng, keeper.told, 3)
                told = refused(book.do, change)
                self.assertEqual(plain.do(change) in (True, False), told is None)
                self.assertEqual(book.kept, plain.store_of([name for name, _ in keeper.kept]))
                self.assertEqual(book.answer, plain.told_by('answer'))


class Words(unittest.TestCase):
    def test_reads(self):
        for machine in (EVEN, THREE, FOUR, (1, 0, (), ('a',), ((0,),)), (1, 0, (0,), ('a',), ((0,),))):
            for many in range(6):
                for word in itertools.product(machine[3], repeat=many):
                    self.assertIs(reads(machine, word), plain_reads(machine, word))
        self.assertIs(reads(FOUR, ('a',) * 4001), True)
        self.assertIs(reads(FOUR, ('a',) * 4000), False)

    def test_letters(self):
        for machine in (EVEN, THREE, FOUR):
            for n in (1, 2, 3, 4, 5):
                for word in itertools.product(machine[3], repeat=min(n, 3)):
                    told = letters(machine, n, word)
                    self.assertEqual(told, tuple(('put', sign, (place,)) for place, sign in enumerate(word)))
                    if machine[0] < 4:
                        book = booked(word_keeper(machine), n, told)
                        self.assertEqual(word_of(machine, book), word)
                        self.assertEqual(book.answer == ((),), reads(machine, word))
                self.assertEqual(letters(machine, n, ()), ())

    def test_places_without_a_letter_are_left_out(self):
        book = booked(word_keeper(THREE), 5, (('put', 'z', (4,)), ('put', 'c', (2,)), ('put', 'a', (0,))))
        self.assertEqual(word_of(THREE, book), ('a', 'c', 'z'))
        self.assertEqual(word_of(THREE, booked(word_keeper(THREE), 5, book.changes + (('strike', 'c', (2,)),))), ('a', 'z'))

    def test_between_hangs_on_the_sequence_of_places(self):
        book = booked(word_keeper(EVEN), 4, letters(EVEN, 4, ('a', 'a', 'a', 'b')))
        self.assertEqual([between(EVEN, book, 0, y, 0) for y in range(4)], [0, 0, 1, 0])
        self.assertEqual([between(EVEN, book, x, 0, 1) for x in range(4)], [1, 1, 1, 1])
        self.assertEqual([between(EVEN, book, x, 3, 0) for x in range(4)], [0, 1, 0, 0])

    def test_books_of_equal_keepers(self):
        # A machine that tells the same text: steps by other tuples, alike.
        other = (2, 0, (0,), ('a', 'b'), tuple([(1, 0), (0, 1)]))
        book = booked(word_keeper(EVEN), 3, letters(EVEN, 3, ('a',)))
        self.assertEqual(word_of(other, book), ('a',))
        self.assertEqual(word_of(EVEN, Book(Keeper(word_keeper(EVEN).text), 2)), ())

    def test_the_book_stays_as_it_was(self):
        book = booked(word_keeper(EVEN), 4, letters(EVEN, 4, ('a', 'b')))
        same = book.copy()
        for _ in range(2):
            self.assertEqual((word_of(EVEN, book), between(EVEN, book, 0, 3, 1)), (('a', 'b'), 1))
            self.assertEqual((book, book.store, book.kept), (same, same.store, same.kept))

    def test_arguments_by_name(self):
        book = booked(word_keeper(machine=EVEN), 4, letters(word=('a', 'b'), n=4, machine=EVEN))
        self.assertEqual(word_of(book=book, machine=EVEN), ('a', 'b'))
        self.assertEqual(between(state=1, y=3, x=0, book=book, machine=EVEN), 1)
        self.assertIs(reads(word=('a', 'a'), machine=EVEN), True)


class RefusedWords(Refusals):
    book = booked(word_keeper(EVEN), 3, (('put', 'a', (0,)),))

    def test_what_is_no_machine(self):
        for machine in BAD_MACHINES + odd_objects():
            with self.subTest(machine):
                self.check(BadMachine, machine, reads, machine, None)
                self.check(BadMachine, machine, word_keeper, machine)
                self.check(BadMachine, machine, word_of, machine, None)
                self.check(BadMachine, machine, between, machine, None, None, None, None)
                self.check(BadMachine, machine, letters, machine, None, None)

    def test_machines_of_all_kinds_that_are_right(self):
        ring = tuple(((state + 1) % 64,) for state in range(64))
        for machine in ((64, 63, tuple(range(64)), ('o',), ring), (1, 0, (), ('s', 'z', 'a'), ((0, 0, 0),)), EVEN, THREE, FOUR):
            self.assertIs(reads(machine, ()), machine[1] in machine[2])

    def test_what_is_no_word(self):
        words = odd_objects() + ['ab', ['a'], ('a', 'c'), ('a', None), ('a', 1), ('a', ('b',)), ('ab',), ('',), ('a', ['b']), None, True]
        for word in words:
            if word != ():
                self.check(BadWord, word, reads, EVEN, word)
                self.check(BadWord, word, letters, EVEN, 5, word)
        self.check(BadWord, word := ('a',) * 4, letters, EVEN, 3, word)
        self.assertIsNone(refused(letters, EVEN, 4, word))
        self.assertIs(reads(EVEN, word), True)

    def test_numbers_of_places(self):
        for n in odd_objects() + [0, 6, True, '2']:
            self.check(BadSize, n, letters, EVEN, n, None)

    def test_what_is_no_book(self):
        for value in odd_objects() + [word_keeper(EVEN)]:
            if not isinstance(value, Book):
                self.check(NoBook, value, word_of, EVEN, value)
                self.check(NoBook, value, between, EVEN, value, None, None, None)
                self.check(NoBook, value, word_of, FOUR, value)

    def test_books_of_other_keepers(self):
        text = word_keeper(EVEN).text
        others = [word_keeper(THREE), going_keeper(), Keeper(text.replace('bar b p\n', '')), Keeper(text + '\nwish is yes'),
                  word_keeper((2, 0, (1,), ('a', 'b'), EVEN[4])), word_keeper((2, 0, (0,), ('b', 'a'), EVEN[4]))]
        for keeper in others:
            self.check(NotWords, keeper.text, word_of, EVEN, Book(keeper, 2))
            self.check(NotWords, keeper.text, between, EVEN, Book(keeper, 2), None, None, None)
        self.check(NotWords, text, word_of, FOUR, self.book)
        self.check(NotWords, text, between, FOUR, self.book, 9, 9, 9)

    def test_places_and_states(self):
        for value in odd_objects() + [3, -1, True, False, '0', (0,), None, 10 ** 8]:
            if not (type(value) is int and 0 <= value < 3):
                self.check(BadPlace, value, between, EVEN, self.book, value, None, None)
                self.check(BadPlace, value, between, EVEN, self.book, 0, value, None)
        for value in odd_objects() + [2, -1, True, False, '0', (0,), None]:
            if not (type(value) is int and 0 <= value < 2):
                self.check(BadState, value, between, EVEN, self.book, 0, 2, value)

    def test_the_first_that_is_listed(self):
        self.check(BadPlace, 7, between, EVEN, self.book, 7, 8, 9)
        self.check(BadPlace, 8, between, EVEN, self.book, 0, 8, 9)
        self.check(BadState, 9, between, EVEN, self.book, 0, 0, 9)
        self.check(BadSize, 0, letters, EVEN, 0, None)
        self.check(BadWord, None, letters, EVEN, 1, None)
