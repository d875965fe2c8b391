"""Section 7: books, beside a plain doing of their keeper's lines."""

import random
import unittest

from tests.drawn_keepers import random_keeper_text
from tests.plain import odd_values
from tests.plain_keepers import PlainBook, plain_number, random_change
from withoutloops.asks import Question
from withoutloops.books import Book, booked, first_wrong, is_right
from withoutloops.engines import answered
from withoutloops.errors import Barred, NoWish
from withoutloops.keepers import Keeper

EVEN = 'told in 1\nkept odd 0\nput in\nset odd is not odd\nstrike in\nset odd is not odd\nanswer is odd'
NEAR = '\n'.join([
    'told row 2', 'kept go 2', 'first go x y is same x y', 'put row', 'bar go q p',
    'set go x y is or go x y and go x p go q y', 'answer x y is go x y', 'wish x y is reach x y u v row u v',
])


class Beside(unittest.TestCase):
    """A Book beside a PlainBook, behind each change."""

    def check_same(self, book, plain):
        keeper = book.keeper
        self.assertEqual(book.store, plain.store_of([name for name, _ in keeper.told]))
        self.assertEqual(book.kept, plain.store_of([name for name, _ in keeper.kept]))
        self.assertEqual(book.answer, plain.told_by('answer'))
        self.assertEqual((book.changes, len(book)), (tuple(plain.changes), len(plain.changes)))
        for name, rows in book.store + book.kept:
            self.assertEqual(book.table(name), rows)
        if keeper.has_wish:
            self.assertEqual(book.wished(), plain.told_by('wish'))
            self.assertIs(is_right(book), book.answer == book.wished())

    def do_both(self, rng, book, plain, change):
        """Does a change in both: what came of it."""
        told = plain.do(change)
        try:
            if rng.random() < 0.5:
                done = book.do(change)
            elif change[0] == 'put':
                done = book.put(change[1], change[2])
            else:
                done = book.strike(change[1], change[2])
        except Barred as error:
            done = error.value
        self.assertIs(type(done), type(told), change)
        self.assertEqual(done, told, change)
        return str(told) if isinstance(told, bool) else 'barred'

    def history(self, rng, text, n, many):
        keeper = Keeper(text)
        book, plain = Book(keeper, n), PlainBook(text, n)
        self.assertEqual((book.keeper, book.n, book.changes), (keeper, n, ()))
        self.check_same(book, plain)
        met = []
        for _ in range(many):
            copy, looks = book.copy(), (book.store, book.kept, book.answer, book.changes)
            met.append(self.do_both(rng, book, plain, random_change(rng, keeper.told, n)))
            self.check_same(book, plain)
            # The copy, and what was told, stay as they were.
            self.assertEqual((copy.store, copy.kept, copy.answer, copy.changes), looks)
            if met[-1] == 'barred':
                self.assertEqual(copy, book)
            else:
                self.assertNotEqual(copy, book)
        self.assertEqual(booked(keeper, n, book.changes), book)
        again = booked(keeper, n, book.changes)
        self.check_same(again, plain)
        return met

    def test_random_keepers(self):
        rng = random.Random(72)
        met = []
        for turn in range(260):
            text = random_keeper_text(rng)
            self.assertIsNone(plain_number(text))
            met += self.history(rng, text, rng.choice([1, 2, 2, 3]), 12)
        for what in ('True', 'False', 'barred'):
            self.assertGreater(met.count(what), 150)

    def test_more_places(self):
        rng = random.Random(73)
        for n in (4, 5):
            for _ in range(6):
                self.history(rng, random_keeper_text(rng), n, 5)

    def test_told_keepers(self):
        rng = random.Random(74)
        for text in (EVEN, NEAR):
            for n in (1, 2, 3, 4):
                self.history(rng, text, n, 12)

    def test_all_sets_are_told_upon_the_tables_as_they_were(self):
        text = '\n'.join(['told in 1', 'kept a 1', 'kept b 1', 'kept c 1', 'put in', 'set a x is same x p', 'set b x is a x',
                          'set c x is or b x and a x in x', 'strike in', 'set b x is a x', 'set a x is b x', 'answer x is c x'])
        book = Book(Keeper(text), 4)
        kept = []
        for place in (2, 0, 3):
            book.put('in', (place,))
            kept.append(dict(book.kept))
        self.assertEqual(kept, [
            {'a': ((2,),), 'b': (), 'c': ()}, {'a': ((0,),), 'b': ((2,),), 'c': ((2,),)},
            {'a': ((3,),), 'b': ((0,),), 'c': ((0,), (2,))},
        ])
        book.strike('in', (2,))
        self.assertEqual(book.kept, (('a', ((0,),)), ('b', ((3,),)), ('c', ((0,), (2,)))))

    def test_lets_are_told_upon_the_tables_as_they_were(self):
        text = '\n'.join(['told in 1', 'kept a 1', 'put in', 'set a x is or a x same x p', 'let was x is a x', 'let now is in p',
                          'bar or now and was p was p', 'let two is some x some y and and was x was y not same x y', 'bar two',
                          'answer is yes'])
        book = Book(Keeper(text), 4)
        self.assertIs(book.put('in', (1,)), True)
        self.assertIs(book.strike('in', (1,)), True)
        with self.assertRaises(Barred) as caught:
            book.put('in', (1,))
        self.assertEqual(caught.exception.value, 7)
        self.assertIs(book.put('in', (2,)), True)
        with self.assertRaises(Barred) as caught:
            book.put('in', (3,))
        self.assertEqual(caught.exception.value, 9)
        self.assertEqual((book.store, book.table('a')), ((('in', ((2,),)),), ((1,), (2,))))

    def test_bars_in_sequence(self):
        lines = ['told in 1', 'told up 1', 'put up', 'bar in p', 'let a is some x in x', 'bar a', 'bar yes', 'answer is yes']
        book = Book(Keeper('\n'.join(lines)), 2)
        for place, number in ((0, 7), (1, 7)):
            with self.assertRaises(Barred) as caught:
                book.put('up', (place,))
            self.assertEqual(caught.exception.value, number)
        book.put('in', (0,))
        for place, number in ((0, 4), (1, 6)):
            with self.assertRaises(Barred) as caught:
                book.put('up', (place,))
            self.assertEqual(caught.exception.value, number)
        self.assertEqual((len(book), book.table('up')), (1, ()))

    def test_a_bar_that_would_hold_behind_the_change(self):
        book = Book(Keeper('told in 1\nput in\nbar in p\nstrike in\nbar not in p\nanswer x is in x'), 2)
        self.assertEqual([book.put('in', (0,)), book.strike('in', (0,)), book.answer], [True, True, ()])

    def test_idle_changes_ask_nothing(self):
        book = Book(Keeper('told in 1\nkept odd 0\nput in\nbar odd\nset odd is not odd\nstrike in\nbar yes\nanswer is odd'), 2)
        told = [book.strike('in', (0,)), book.put('in', (0,)), book.put('in', (0,)), book.do(('strike', 'in', (1,)))]
        self.assertEqual(told, [False, True, False, False])
        self.assertEqual((len(book), book.answer), (4, ((),)))
        for change in (('put', 'in', (1,)), ('strike', 'in', (0,))):
            with self.assertRaises(Barred):
                book.do(change)
        self.assertEqual((len(book), book.answer, book.table('in')), (4, ((),), ((0,),)))

    def test_tables_without_a_section_stay(self):
        book = Book(Keeper('told in 1\ntold up 1\nkept a 1\nfirst a x is yes\nput in\nset a x is in x\nanswer x is a x'), 2)
        for change in (('put', 'up', (0,)), ('strike', 'up', (0,)), ('strike', 'in', (0,))):
            book.do(change)
            self.assertEqual(book.kept, (('a', ((0,), (1,))),))
        book.put('in', (1,))
        self.assertEqual(book.kept, (('a', ()),))
        book.strike('in', (1,))
        self.assertEqual((book.kept, book.store), ((('a', ()),), (('in', ()), ('up', ()))))

    def test_first(self):
        text = '\n'.join(['told in 1', 'kept a 2', 'kept b 1', 'kept c 0', 'kept d 0', 'kept e 3', 'first c is some x some y less x y',
                          'first a y x is less x y', 'first e x y z is and less x y less y z', 'answer x y is a x y'])
        for n in range(1, 6):
            book, plain = Book(Keeper(text), n), PlainBook(text, n)
            self.check_same(book, plain)
        self.assertEqual(Book(Keeper(text), 3).kept, (
            ('a', ((1, 0), (2, 0), (2, 1))), ('b', ()), ('c', ((),)), ('d', ()), ('e', ((0, 1, 2),)),
        ))

    def test_changed_places_in_each_table(self):
        text = '\n'.join(['told a 0', 'told b 1', 'told c 2', 'kept was 2', 'put a', 'set was x y is yes', 'put b',
                          'set was x y is and same x p same y p', 'put c', 'set was x y is and same x q same y p', 'answer x y is was x y'])
        book = Book(Keeper(text), 2)
        told = [book.put('a', ()), book.answer, book.put('b', (1,)), book.answer, book.put('c', (0, 1)), book.answer]
        self.assertEqual(told, [True, ((0, 0), (0, 1), (1, 0), (1, 1)), True, ((1, 1),), True, ((1, 0),)])
        self.assertEqual(book.store, (('a', ((),)), ('b', ((1,),)), ('c', ((0, 1),))))


class Books(unittest.TestCase):
    def test_what_a_new_book_tells(self):
        keeper = Keeper(NEAR)
        for n in range(1, 6):
            book = Book(keeper, n)
            same = tuple((place, place) for place in range(n))
            self.assertEqual((book.n, book.store, book.kept, book.answer), (n, (('row', ()),), (('go', same),), same))
            self.assertEqual((book.keeper, book.changes, len(book), book.wished()), (keeper, (), 0, same))

    def test_what_was_told_stays_as_it_was(self):
        book = Book(Keeper(NEAR), 3)
        first = book.store, book.kept, book.answer, book.changes, book.table('go'), book.wished()
        copies = repr(first)
        book.put('row', (0, 1))
        book.put('row', (1, 2))
        self.assertEqual(repr(first), copies)
        self.assertNotEqual((book.store, book.kept, book.answer, book.changes, book.table('go'), book.wished()), first)
        for value in (book.store, book.kept, book.answer, book.changes, book.table('go'), book.wished()):
            self.assertIs(type(value), tuple)

    def test_copies_go_on_by_themselves(self):
        book = booked(Keeper(NEAR), 3, (('put', 'row', (0, 1)),))
        copy = book.copy()
        self.assertIsNot(copy, book)
        self.assertEqual(copy, book)
        copy.put('row', (1, 2))
        self.assertEqual((len(book), len(copy), book.table('row')), (1, 2, ((0, 1),)))
        self.assertNotEqual(copy, book)
        book.put('row', (1, 2))
        self.assertEqual((copy, copy.kept, copy.store, copy.answer), (book, book.kept, book.store, book.answer))
        other = copy.copy().copy()
        other.strike('row', (0, 1))
        self.assertEqual(copy, book)

    def test_equality(self):
        near, even = Keeper(NEAR), Keeper(EVEN)
        book = booked(near, 3, (('put', 'row', (0, 1)), ('put', 'row', (1, 2))))
        self.assertEqual(book, booked(Keeper(NEAR), 3, (('put', 'row', (0, 1)), ('put', 'row', (1, 2)))))
        others = [
            booked(near, 4, book.changes), booked(near, 3, book.changes[::-1]), booked(near, 3, book.changes[:1]),
            booked(near, 3, book.changes + book.changes[:1]), Book(even, 3), near, book.changes, NEAR,
            booked(Keeper(NEAR.replace('bar go q p\n', '')), 3, book.changes),
        ]
        for other in others + odd_values():
            self.assertIs(book == other, False)
            self.assertIs(other == book, False)
            self.assertIs(book != other, True)
        self.assertEqual(Book(near, 2), Book(near, 2))
        # The same tables by other changes are no equal books.
        self.assertEqual(booked(near, 3, book.changes[::-1]).kept, book.kept)

    def test_no_order_and_no_sums(self):
        one, other = Book(Keeper(EVEN), 1), Book(Keeper(EVEN), 2)
        for call in (lambda: one < other, lambda: one >= 1, lambda: one + other, lambda: other * 2, lambda: -one,
                     lambda: one[0]):
            with self.assertRaises(TypeError):
                call()

    def test_arguments_by_name(self):
        book = Book(n=2, keeper=Keeper(EVEN))
        self.assertIs(book.put(row=(0,), name='in'), True)
        self.assertIs(book.strike(row=(1,), name='in'), False)
        self.assertIs(book.do(change=('strike', 'in', (0,))), True)
        self.assertEqual(book.table(name='odd'), ())
        self.assertEqual(booked(changes=book.changes, n=2, keeper=Keeper(EVEN)), book)
        near = Keeper(NEAR)
        self.assertIsNone(first_wrong(changes=(), n=2, keeper=near))
        self.assertIs(is_right(book=Book(near, 1)), True)

    def test_long_histories(self):
        rng = random.Random(75)
        keeper = Keeper(EVEN)
        book = Book(keeper, 5)
        rows, odd = set(), False
        for _ in range(1500):
            word, _, row = change = random_change(rng, keeper.told, 5)
            odd ^= book.do(change)
            (rows.add if word == 'put' else rows.discard)(row)
            self.assertEqual((book.table('in'), book.answer), (tuple(sorted(rows)), ((),) if odd else ()))
        self.assertEqual((len(book), len(rows) % 2 == 1), (1500, odd))


class Right(unittest.TestCase):
    def test_is_right(self):
        near = Keeper(NEAR)
        some = (('put', 'row', (0, 1)), ('put', 'row', (1, 2)), ('strike', 'row', (0, 1)))
        self.assertEqual([is_right(booked(near, 3, some[:many])) for many in range(4)], [True, True, True, False])
        self.assertIs(is_right(booked(near, 3, some + some[:1])), True)

    def test_first_wrong(self):
        near = Keeper(NEAR)
        some = (('put', 'row', (0, 1)), ('put', 'row', (0, 1)), ('strike', 'row', (1, 0)), ('strike', 'row', (0, 1)),
                ('put', 'row', (0, 1)), ('strike', 'row', (0, 1)))
        self.assertEqual([first_wrong(near, 2, some[:many]) for many in range(7)], [None, None, None, None, 4, 4, 4])
        never = Keeper('told in 1\nanswer is yes\nwish is some x in x')
        self.assertEqual([first_wrong(never, 2, some) for some in ((), (('put', 'in', (0,)),))], [0, 0])
        later = Keeper('told in 1\nanswer is no\nwish is every x in x')
        self.assertEqual(first_wrong(later, 2, (('put', 'in', (0,)), ('put', 'in', (1,)), ('strike', 'in', (1,)))), 2)

    def test_beside_is_right_behind_each_change(self):
        rng = random.Random(76)
        found = set()
        while len(found) < 6:
            text = random_keeper_text(rng)
            keeper = Keeper(text)
            if not keeper.has_wish:
                with self.assertRaises(NoWish):
                    first_wrong(keeper, 2, ())
                continue
            book = Book(keeper, 2)
            right = [is_right(book)]
            for _ in range(8):
                try:
                    book.do(random_change(rng, keeper.told, 2))
                    right.append(is_right(book))
                except Barred:
                    pass
            told = first_wrong(keeper, 2, book.changes)
            self.assertEqual(told, right.index(False) if False in right else None)
            found.add(told)

    def test_wishes_are_what_the_engine_answers(self):
        keeper = Keeper(NEAR)
        book = booked(keeper, 4, (('put', 'row', (0, 1)), ('put', 'row', (1, 3)), ('strike', 'row', (0, 1))))
        question = Question(('x', 'y'), 'reach x y u v row u v', keeper.told, 0)
        self.assertEqual(book.wished(), answered(question, 4, book.store, ()))
