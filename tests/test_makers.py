"""Section 12: keepers with other answers, and of two keepers, beside Books of those that were handed in."""

import itertools
import random
import unittest

from tests.drawn_keepers import question_text, random_keeper_text
from tests.plain import KEYWORDS, balanced, rows_over, tree
from tests.plain_keepers import random_change
from withoutloops.books import Book, booked
from withoutloops.errors import Barred, Wide
from withoutloops.going import going_keeper
from withoutloops.keepers import Keeper
from withoutloops.makers import beside, both_hold, differs, either_holds, with_answer
from withoutloops.webs import least_keeper, side_keeper, web_keeper

JOINS = {
    beside: lambda one, other: one,
    both_hold: lambda one, other: tuple(sorted(set(one) & set(other))),
    either_holds: lambda one, other: tuple(sorted(set(one) | set(other))),
    differs: lambda one, other: tuple(sorted(set(one) ^ set(other))),
}

# Names of tables put for names of places and lets, and the other way round: no two of them meet in one keeper.
SWAPS = [
    {}, {'row': 'x', 'go': 'l0', 'in': 'u', 'flag': 'x0'}, {'row': 'l1', 'tie': 'y', 'up': 'x1', 'even': 'z'},
    {'in': 'x1', 'mid': 'v', 'go': 'abcde', 'row': 'x0'}, {'even': 'a1', 'up': 'x', 'in': 'l0'},
]


def swapped(text, names):
    """A keeper's text in which names are swapped, word by word."""
    both = {**names, **{other: name for name, other in names.items()}}
    assert not set(both) & set(KEYWORDS)
    return '\n'.join(' '.join(both.get(word, word) for word in line.split(' ')) for line in text.split('\n'))


def kept_as(mark, store):
    return tuple((mark + name, rows) for name, rows in store)


def go_together(one, other):
    """Whether both keepers may be put together."""
    told = {**dict(other.told), **dict(one.told)}
    kept = ['a' + name for name, _ in one.kept] + ['b' + name for name, _ in other.kept]
    if any(dict(other.told).get(name, many) != many for name, many in one.told):
        return False
    return len(told) <= 3 and not set(kept) & set(told) and not set(kept) & set(KEYWORDS) and max(map(len, kept + [''])) <= 6


class Pair:
    """A Book of each of two keepers, to which the same changes are told."""

    def __init__(self, one, other, n):
        self.books = [Book(one, n), Book(other, n)]

    def do(self, change):
        """True or False as a Book tells, None if the change is barred in one of both."""
        tried = [book.copy() for book in self.books]
        told = []
        for book in tried:
            if change[1] in dict(book.keeper.told):
                try:
                    told.append(book.do(change))
                except Barred:
                    return None
        self.books = tried
        assert len(set(told)) == 1
        return told[0]


class Checks(unittest.TestCase):
    def check_text(self, made):
        """A Keeper of its text is equal to it, and told alike."""
        again = Keeper(made.text)
        self.assertIsInstance(made, Keeper)
        self.assertEqual(again, made)
        self.assertEqual((again.told, again.kept, again.has_wish), (made.told, made.kept, made.has_wish))
        return again

    def do(self, book, change):
        try:
            return book.do(change)
        except Barred:
            return None


class WithAnswer(Checks):
    def check_made(self, rng, keeper, made, head, text):
        self.assertEqual((made.told, made.kept, made.has_wish), (keeper.told, keeper.kept, False))
        tables = keeper.told + keeper.kept
        book, other = Book(self.check_text(made), 3), Book(keeper, 3)
        for _ in range(8):
            change = random_change(rng, keeper.told, 3)
            self.assertIs(self.do(book, change), self.do(other, change))
            self.assertEqual((book.store, book.kept, book.changes), (other.store, other.kept, other.changes))
            self.assertEqual(book.answer, rows_over(head, tree(text, tables), 3, book.store + book.kept, ()))

    def test_drawn_keepers(self):
        rng = random.Random(11)
        for _ in range(60):
            keeper = Keeper(random_keeper_text(rng))
            text_ahead = keeper.text
            head = tuple(rng.sample(['x', 'y', 'b', 'w9'], rng.randint(0, 3)))
            text = question_text(rng, list(keeper.told + keeper.kept), list(head))
            made = with_answer(keeper, head, text)
            self.check_made(rng, keeper, made, head, text)
            self.check_made(rng, keeper, with_answer(with_answer(made, (), 'yes'), head, text), head, text)
            self.assertEqual(keeper.text, text_ahead)

    def test_heads_and_names(self):
        keeper = Keeper('told row 2\nkept go 1\nput row\nset go x is same x p\nanswer is yes\nwish is some x row x x')
        made = with_answer(keeper, ('a', 'b', 'c'), 'and row a b go c')
        self.assertEqual(booked(made, 3, (('put', 'row', (2, 1)),)).answer, ((2, 1, 2),))
        self.assertEqual(booked(with_answer(keeper, (), 'some x go x'), 2, ()).answer, ())


class Two(Checks):
    def check_two(self, rng, one, other, n, many, makers=tuple(JOINS)):
        """What is made of two, beside a Book of each: whether a change was barred."""
        for maker in makers:
            if maker != beside and len(Book(one, 1).keeper.plan.answer.head) != len(other.plan.answer.head):
                continue
            made = maker(one, other)
            self.assertEqual(made.told, one.told + tuple(table for table in other.told if table not in one.told))
            self.assertEqual(made.kept, kept_as('a', one.kept) + kept_as('b', other.kept))
            self.assertFalse(made.has_wish)
            self.check_text(made)
            self.check_history(rng, made, Pair(one, other, n), JOINS[maker], many)

    def check_same(self, book, pair, join):
        first, second = pair.books
        self.assertEqual(book.kept, kept_as('a', first.kept) + kept_as('b', second.kept))
        for name, rows in first.store + second.store:
            self.assertEqual(book.table(name), rows)
        self.assertEqual(book.answer, join(first.answer, second.answer))

    def check_history(self, rng, made, pair, join, many):
        book = Book(made, pair.books[0].n)
        self.check_same(book, pair, join)
        for _ in range(many):
            change = random_change(rng, made.told, book.n)
            told = pair.do(change)
            self.met.append(told)
            self.assertIs(self.do(book, change), told)
            self.check_same(book, pair, join)

    def setUp(self):
        self.met = []

    def test_drawn_keepers(self):
        rng = random.Random(12)
        pairs = 0
        while pairs < 90:
            one, other = [Keeper(swapped(random_keeper_text(rng), rng.choice(SWAPS))) for _ in range(2)]
            if go_together(one, other):
                pairs += 1
                self.check_two(rng, one, other, rng.randint(1, 3), 7)
        for told in (True, False, None):
            self.assertGreater(self.met.count(told), 50)

    def test_told_keepers(self):
        rng = random.Random(13)
        for one, other in itertools.product((web_keeper(), side_keeper(), least_keeper()), repeat=2):
            self.check_two(rng, with_answer(one, ('x', 'y'), 'tree x y'), with_answer(other, ('y', 'x'), 'mid x y x'), 3, 8)
        going = going_keeper()
        self.check_two(rng, going, web_keeper(), 3, 16)
        self.check_two(rng, side_keeper(), going, 3, 10)

    def test_answers_of_unlike_places(self):
        one = with_answer(going_keeper(), (), 'some x row x x')
        other = with_answer(web_keeper(), ('x', 'y', 'z'), 'mid x y z')
        self.check_two(random.Random(14), one, other, 2, 9, (beside,))
        self.check_two(random.Random(14), other, one, 2, 9, (beside,))

    def test_sections_of_one_alone_and_tables_that_stay(self):
        one = Keeper('told in 1\ntold up 1\nkept any 0\nput in\nset any is yes\nanswer is any')
        other = Keeper('told in 1\nkept any 0\nkept stay 1\nfirst stay x is yes\nstrike in\nset any is not any\nanswer is any')
        self.check_two(random.Random(15), one, other, 2, 20)
        self.check_two(random.Random(16), other, one, 2, 20)

    def test_bars_of_both(self):
        one = Keeper('told in 1\nput in\nbar some x and in x less x p\nanswer x is in x')
        other = Keeper('told in 1\nstrike in\nbar some x and in x less p x\nput in\nlet a is some x in x\nbar and a every x in x\nanswer x is in x')
        self.check_two(random.Random(17), one, other, 3, 25)
        self.assertIn(None, self.met)

    def test_long_names_and_questions(self):
        lines = 'told in 1\nkept abcde 1\nput in\nset abcde x is {}\nanswer x is {}'
        long, deep = 'not ' + balanced('or', ['in x'] * 22 + ['same x p']), 'not ' * 11 + 'same x p'
        answer = balanced('or', ['abcde x'] * 6 + ['in x'])
        self.assertEqual([len(text.split(' ')) for text in (long, answer)], [70, 20])
        one, other = Keeper(lines.format(deep, answer)), Keeper(lines.format(long, answer))
        self.check_two(random.Random(18), one, other, 3, 12)
        self.check_two(random.Random(18), other, one, 3, 12)

    def test_sixteen_kept_tables(self):
        texts = []
        for many in (8, 9):
            lines = ['told in 1'] + [f'kept k{at} 1' for at in range(many)] + ['put in']
            texts.append('\n'.join(lines + [f'set k{at} x is same x p' for at in range(8)] + ['answer x is k0 x']))
        self.check_two(random.Random(19), Keeper(texts[0]), Keeper(texts[0]), 2, 6)
        with self.assertRaises(Wide):
            beside(Keeper(texts[0]), Keeper(texts[1]))


class Deep(Checks):
    def test_answers_of_ten_deep(self):
        deep = ' '.join(['not'] * 9) + ' in x'
        one, other = Keeper(f'told in 1\nanswer x is {deep}'), Keeper(f'told in 1\nanswer y is {deep[:-1]}y')
        change = (('put', 'in', (0,)),)
        self.assertEqual(booked(differs(one, other), 2, change).answer, ())
        self.assertEqual(booked(both_hold(one, other), 2, change).answer, ((1,),))
        self.assertEqual(booked(either_holds(one, with_answer(other, ('x',), 'in x')), 2, change).answer, ((0,), (1,)))
