"""Sections 5 and 3 (a): answered beside a plain going through all places, joined and looks counted anew."""

import itertools
import random
import unittest

from tests.plain import (
    balanced, plain_answer, plain_looks, plain_number, random_asked, random_rows, random_text, subsets,
)
from withoutloops.asks import Question, width
from withoutloops.engines import answered, joined, looks

TABLES = (('row', 2), ('in', 1), ('odd', 0), ('mid', 3))
STORE = (
    ('row', ((0, 1), (1, 1), (1, 2))), ('in', ((0,), (2,))), ('odd', ((),)), ('mid', ((0, 0, 1), (0, 1, 2), (2, 1, 0))),
)
RING = (('row', ((0, 1), (1, 2), (2, 0), (3, 4))),)


def asked(head, text, n=3, store=STORE, row=()):
    tables = tuple(table for table in TABLES if table[0] in dict(store))
    return answered(Question(head, text, tables, len(row)), n, store, row)


class Answered(unittest.TestCase):
    def check(self, question, n, store, row):
        """Answered, joined and looks, all beside what the plain way tells."""
        told = plain_answer(question, n, store, row)
        self.assertEqual(answered(question, n, store, row), told, (question.text, n, store, row))
        if question.is_loopless:
            number = plain_number(question, n, store, row)
            self.assertEqual(joined(question, n, store, row), (told, number), (question.text, n, store, row))
            self.assertEqual(looks(question, n), plain_looks(question, n), question.text)
        return told

    def test_each_form(self):
        told = [
            ((), 'yes', ((),)), ((), 'no', ()), ((), 'odd', ((),)), ((), 'not odd', ()), (('x',), 'in x', ((0,), (2,))),
            (('x',), 'not in x', ((1,),)), (('x', 'y'), 'row x y', ((0, 1), (1, 1), (1, 2))),
            (('y', 'x'), 'row x y', ((1, 0), (1, 1), (2, 1))), (('x',), 'row x x', ((1,),)),
            (('x', 'y'), 'same x y', ((0, 0), (1, 1), (2, 2))), (('x', 'y'), 'less x y', ((0, 1), (0, 2), (1, 2))),
            (('x',), 'same x x', ((0,), (1,), (2,))), (('x',), 'less x x', ()),
            (('x', 'y'), 'and in x row x y', ((0, 1),)), (('x',), 'or in x row x x', ((0,), (1,), (2,))),
            (('x',), 'some y row x y', ((0,), (1,))), (('x',), 'some y row y x', ((1,), (2,))),
            (('x',), 'every y or row x y not same x y', ((1,),)), ((), 'every y some x row x y', ()),
            (('z', 'y', 'x'), 'mid x y z', ((0, 1, 2), (1, 0, 0), (2, 1, 0))), (('x',), 'mid x x x', ()),
            (('x', 'y'), 'mid x x y', ((0, 1),)), (('x', 'y'), 'mid y x y', ()),
            (('x', 'y'), 'reach x y u v row u v', ((0, 0), (0, 1), (0, 2), (1, 1), (1, 2), (2, 2))),
            (('x', 'y'), 'reach x y u v row v u', ((0, 0), (1, 0), (1, 1), (2, 0), (2, 1), (2, 2))),
            (('x', 'y'), 'reach y x u v no', ((0, 0), (1, 1), (2, 2))),
        ]
        for head, text, rows in told:
            with self.subTest(text):
                self.assertEqual(asked(head, text), rows)
                self.check(Question(head, text, TABLES, 0), 3, STORE, ())

    def test_heads_that_are_not_asked_for(self):
        self.assertEqual(asked(('x', 'y'), 'in y', 3), ((0, 0), (0, 2), (1, 0), (1, 2), (2, 0), (2, 2)))
        self.assertEqual(asked(('x', 'y', 'z'), 'yes', 2, ()), tuple(itertools.product(range(2), repeat=3)))
        self.assertEqual(asked(('x', 'y', 'z'), 'no', 2, ()), ())
        question = Question(('z', 'a'), 'in a', TABLES[1:2], 0)
        self.assertEqual(joined(question, 2, (('in', ((1,),)),), ()), (((0, 1), (1, 1)), 1))

    def test_rows_of_the_changed_places(self):
        self.assertEqual(asked((), 'in p', row=(2,)), ((),))
        self.assertEqual(asked((), 'in p', row=(1,)), ())
        self.assertEqual(asked((), 'row p q', row=(0, 1)), ((),))
        self.assertEqual(asked((), 'row p q', row=(1, 0)), ())
        self.assertEqual(asked((), 'mid p q r', row=(2, 1, 0)), ((),))
        self.assertEqual(asked((), 'mid r q p', row=(2, 1, 0)), ((),))
        self.assertEqual(asked((), 'mid q p r', row=(2, 1, 0)), ())
        self.assertEqual(asked(('x',), 'mid p p x', row=(0, 1, 2)), ((1,),))
        self.assertEqual(asked(('x',), 'or same x q less x p', 5, (), (1, 4)), ((0,), (4,)))
        self.assertEqual(asked((), 'reach p q u v row u v', 5, RING, (2, 1)), ((),))
        self.assertEqual(asked((), 'reach p q u v row u v', 5, RING, (2, 3)), ())
        self.assertEqual(asked((), 'same p p', row=(1, 1)), ((),))
        self.assertEqual(asked((), 'less p q', row=(1, 1)), ())

    def test_names_bound_anew(self):
        self.assertEqual(asked(('x',), 'and in x some x row x x'), ((0,), (2,)))
        self.assertEqual(asked(('x',), 'and some x row x x in x'), ((0,), (2,)))
        self.assertEqual(asked(('x',), 'some x in x'), ((0,), (1,), (2,)))
        self.assertEqual(asked(('x', 'y'), 'reach x y y x row y x'), asked(('x', 'y'), 'reach x y u v row u v'))
        self.assertEqual(asked(('x', 'y'), 'reach x y y x row x y'), asked(('x', 'y'), 'reach x y u v row v u'))
        self.assertEqual(asked((), 'some x and in x every x not mid x x x'), ((),))

    def test_reach(self):
        told = ((0, 0), (0, 1), (0, 2), (1, 0), (1, 1), (1, 2), (2, 0), (2, 1), (2, 2), (3, 3), (3, 4), (4, 4))
        self.assertEqual(asked(('x', 'y'), 'reach x y u v row u v', 5, RING), told)
        # Steps hang on a name of the round about: none goes to z.
        line = (('row', ((0, 1), (1, 2), (2, 3), (3, 4))),)
        text = 'some x some y and row x y not reach x y u v and row u v not same v z'
        self.assertEqual(asked(('z',), text, 5, line), ((1,), (2,), (3,), (4,)))
        self.assertEqual(asked(('z',), 'reach p q u v and row u v not same u z', 5, line, (1, 3)), ((0,), (3,), (4,)))
        # Nothing but the place itself is come to by no step.
        self.assertEqual(asked(('x', 'y'), 'reach x y u v same u v', 4, ()), asked(('x', 'y'), 'same x y', 4, ()))
        # Over four steps, the longest way there is.
        told = asked(('x', 'y'), 'or same x y less x y', 5, ())
        self.assertEqual(asked(('x', 'y'), 'reach x y u v row u v', 5, line), told)

    def test_loops_in_loops(self):
        texts = [
            'reach x y u v and row u v not reach v u a b row a b',
            'reach x y u v reach u v a b and row a b row u a',
            'reach x y u v reach v u u v and row u v row x y',
            'reach x y u v some w and row u w reach w v a b and row b a not same b x',
            'not reach x y u v not reach x u a b or row a b row b v',
        ]
        rng = random.Random(51)
        for text in texts:
            for n in (1, 2, 3, 4):
                for _ in range(6):
                    store = (('row', random_rows(rng, 2, n)),)
                    self.check(Question(('x', 'y'), text, TABLES[:1], 0), n, store, ())

    def test_all_stores_over_two_places(self):
        texts = [
            'some u and row x u not row u x', 'every u or row x u in u', 'or in x and row x x not in y',
            'reach x y u v and row u v not in v', 'and some x row x y every y row x y',
        ]
        stores = [
            (('row', row), ('in', standing))
            for row in subsets(itertools.product(range(2), repeat=2)) for standing in subsets([(0,), (1,)])
        ]
        for text in texts:
            for head in (('x', 'y'), ('y', 'x')):
                for store in stores:
                    self.check(Question(head, text, TABLES[:2], 0), 2, store, ())

    def test_random_questions(self):
        rng = random.Random(52)
        lengths, heads, sizes, rows = set(), set(), set(), set()
        for turn in range(2500):
            n = rng.randint(1, 5)
            question, store, row = random_asked(rng, n, rng.randint(2, 6), turn % 3 == 0)
            if width(question) > 4:
                continue
            told = self.check(question, n, store, row)
            lengths.add(len(question.text.split(' ')))
            heads.add(len(question.head))
            sizes.add(n)
            rows.add((len(question.head), 0 < len(told) < n ** len(question.head)))
        self.assertEqual((heads, sizes), ({0, 1, 2, 3}, {1, 2, 3, 4, 5}))
        self.assertEqual(rows, {(0, False), (1, True), (1, False), (2, True), (2, False), (3, True), (3, False)})
        self.assertGreater(max(lengths), 30)

    def test_wide_questions(self):
        rng = random.Random(53)
        met = set()
        for _ in range(3000):
            n = rng.randint(2, 5)
            text = random_text(rng, TABLES[:2], ['x', 'p'], 8, rng.random() < 0.3, 0.9, 'xyabcdefg')
            if len(text.split(' ')) > 60:
                continue
            question = Question(('x',), text, TABLES[:2], 1)
            wide = width(question)
            if wide < 5 or n ** wide > 4000 or (n, wide) in met:
                continue
            met.add((n, wide))
            store = tuple((name, random_rows(rng, many, n)) for name, many in TABLES[:2])
            self.check(question, n, store, (rng.randrange(n),))
        self.assertGreater(len(met), 3)

    def test_more_names_than_are_gone_through_at_once(self):
        rng = random.Random(54)
        for n, many in ((2, 11), (2, 12), (3, 7), (3, 8), (4, 6), (5, 5), (5, 6)):
            names = 'abcdefghijkl'[:many]
            some = [f'row {one} {other}' for one, other in zip(names, names[1:])]
            binds = ['some' if at % 2 else 'every' for at in range(many)]
            text = ' '.join(f'{word} {name}' for word, name in zip(binds[:9], names))
            head = tuple(names[9:])
            text = f'{text} {balanced("or", some)}'
            for _ in range(2):
                store = (('row', random_rows(rng, 2, n)),)
                question = Question(head, text, TABLES[:1], 0)
                self.assertEqual(width(question), many)
                self.assertEqual(answered(question, n, store, ()), plain_answer(question, n, store, ()))
                self.assertEqual(joined(question, n, store, ())[0], answered(question, n, store, ()))

    def test_wide_loops(self):
        rng = random.Random(55)
        texts = [
            ('some w reach x y u v and or row u v row w v reach u z a b and row b a not same b w', 4),
            ('reach x y u v and or row u v row z u not row v x', 4),
            ('reach x y u v and or row u v and row z u less y v not row v x', 5),
            ('some w reach x y u v and or row u v and row z w row x u or less u w not row v y', 6),
            ('every w reach y x u v or and row u v less u w and row z w and row v x less u y', 6),
        ]
        for text, wide in texts:
            question = Question(('x', 'y', 'z'), text, TABLES[:1], 0)
            self.assertEqual(width(question), wide)
            for n in (2, 3, 4, 5):
                for share in (0.3, 0.6):
                    rows = itertools.product(range(n), repeat=2)
                    self.check(question, n, (('row', tuple(row for row in rows if rng.random() < share)),), ())

    def test_equal_calls_and_arguments_by_name(self):
        question = Question(('x',), 'some y and row x y not row y x', TABLES[:1], 0)
        for _ in range(2):
            self.assertEqual(answered(row=(), store=STORE[:1], n=3, question=question), ((0,), (1,)))
            self.assertEqual(joined(row=(), store=STORE[:1], n=3, question=question), (((0,), (1,)), 2 + 2 + 3 + 3 + 6))
            self.assertEqual(looks(n=3, question=question), 18)


class Counted(unittest.TestCase):
    def number(self, head, text, n=3, store=STORE, row=()):
        return joined(Question(head, text, TABLES, len(row)), n, store, row)[1]

    def test_rows_held(self):
        told = [
            ('yes', 1), ('no', 0), ('not yes', 1), ('not no', 1), ('odd', 1), ('not odd', 1), ('in x', 2),
            ('row x x', 1), ('same x x', 3), ('same x y', 3), ('less x y', 3), ('not less x y', 9), ('in p', 0),
            ('same p p', 1), ('row p x', 2), ('row p q', 1), ('and in x in x', 6), ('and in x in y', 8),
            ('and in x no', 2), ('or in x no', 4), ('or in x yes', 6), ('or in x in y', 2 + 2 + 8),
            ('some u yes', 2), ('every u yes', 2), ('some u no', 0), ('some u in x', 4), ('every u in x', 4),
            ('some u in u', 3), ('every u in u', 2), ('some u row x u', 2 + 3), ('every u row x u', 3),
            ('mid x y x', 0), ('mid x x y', 1), ('and row x y row x y', 9),
        ]
        for text, number in told:
            with self.subTest(text):
                self.assertEqual(self.number(('x', 'y'), text, row=(1, 1)), number)
                question = Question(('x', 'y'), text, TABLES, 2)
                self.assertEqual(plain_number(question, 3, STORE, (1, 1)), number)

    def test_looks(self):
        told = [
            ((), 'yes', 0), (('x',), 'yes', 0), ((), 'odd', 1), (('x', 'y', 'z'), 'odd', 27), (('x',), 'same x x', 3),
            (('x',), 'not in x', 3), (('x',), 'and yes in x', 3), (('x',), 'or in x in x', 6),
            ((), 'some u in u', 3), ((), 'every u or odd in u', 6),
            ((), 'and odd some u some v and row u v less u v', 19),
            (('x',), 'some u and row x u every v or mid x u v no', 9 + 27), ((), 'some u yes', 0),
            (('x', 'y', 'z'), 'some u some v odd', 3 ** 5),
        ]
        for head, text, number in told:
            with self.subTest(text):
                question = Question(head, text, TABLES, 0)
                self.assertEqual(looks(question, 3), number)
                self.assertEqual(plain_looks(question, 3), number)

    def test_looks_of_one_and_of_many_places(self):
        question = Question(('x', 'y'), 'some u and row x u every v row u v', TABLES, 0)
        self.assertEqual([looks(question, n) for n in (1, 2, 3, 4, 5)], [n ** 3 + n ** 4 for n in (1, 2, 3, 4, 5)])
        deep = Question((), 'some u ' * 13 + 'in u', TABLES, 0)
        self.assertEqual(looks(deep, 5), 5 ** 13)
        self.assertEqual(answered(deep, 5, tuple((name, ()) for name, _ in TABLES), ()), ())
