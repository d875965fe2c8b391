"""Section 6: where two questions part, and on which tables a question hangs, beside going through all stores."""

import itertools
import random
import unittest

from tests.plain import all_pairs, balanced, nested, odd_values, plain_answer, random_text
from tests.refusing import Refusals, refused
from withoutloops.asks import Question
from withoutloops.errors import BadMost, BadPair, BadSize, NoQuestion, Wide
from withoutloops.rewriting import alike, few_names, hangs_on, pushed, shows_alike

TABLES = (('row', 2), ('in', 1), ('odd', 0))
# Which tables are asked, the number of changed places, and over how many places at most.
SMALL = [
    ((('row', 2),), 0, 2), ((('row', 2),), 1, 2), ((('in', 1),), 2, 3), ((('in', 1), ('odd', 0)), 1, 3),
    ((('in', 1), ('up', 1)), 0, 3), ((('row', 2), ('odd', 0)), 0, 2), ((('odd', 0), ('even', 0)), 3, 2),
    ((), 2, 3), ((), 0, 5), ((('mid', 3),), 0, 1), ((('mid', 3),), 1, 2), ((('in', 1), ('row', 2)), 0, 2),
]
WEB, IN = (('row', 2),), (('in', 1),)


def plain_parted(one, other, n):
    """All (STORE, row) by which both are answered otherwise."""
    return [
        (store, row) for store, row in all_pairs(one.tables, one.changed, n)
        if plain_answer(one, n, store, row) != plain_answer(other, n, store, row)
    ]


def plain_hangs_on(question, n):
    found = set()
    for store, row in all_pairs(question.tables, question.changed, n):
        told = plain_answer(question, n, store, row)
        for at, (name, many) in enumerate(question.tables):
            for fresh in itertools.product(range(n), repeat=many):
                if fresh not in store[at][1]:
                    more = store[:at] + ((name, tuple(sorted(store[at][1] + (fresh,)))),) + store[at + 1:]
                    if plain_answer(question, n, more, row) != told:
                        found.add(name)
    return tuple(sorted(found))


def random_question(rng, tables, changed, head, loops):
    alive = list(head) + ['p', 'q', 'r'][:changed]
    while True:
        text = random_text(rng, tables, alive, rng.randint(1, 4), loops)
        if len(text.split(' ')) <= 30:
            return Question(head, text, tables, changed)


class Alike(unittest.TestCase):
    def check(self, one, other, n):
        parted = plain_parted(one, other, n)
        told = alike(one, other, n, 20000)
        if parted:
            self.assertIn(told, parted, (one.text, other.text))
            self.assertIs(type(told[0]), tuple)
        else:
            self.assertIsNone(told, (one.text, other.text))
        self.assertIs(shows_alike(one, other, n, 20000, told), True)
        self.assertIs(shows_alike(one, other, n, 20000, None), not parted)
        return bool(parted)

    def test_told_ones(self):
        told = [
            ('some u row x u', 'row x x', WEB, 1, True), ('some u row x u', 'row x x', WEB, 2, False),
            ('in x', 'in x', IN, 3, True), ('in x', 'not in x', IN, 1, False), ('yes', 'no', (), 1, False),
            ('yes', 'not no', (), 5, True), ('some u in u', 'not every u not in u', IN, 5, True),
            ('reach x x u v no', 'yes', (), 5, True), ('less x x', 'no', (), 5, True),
            ('some u less x u', 'no', (), 1, True), ('some u less x u', 'no', (), 2, False),
            ('same x x', 'some u same u x', (), 5, True), ('reach x x u v row u v', 'yes', WEB, 3, True),
        ]
        for one, other, tables, n, is_alike in told:
            with self.subTest((one, other, n)):
                one, other = (Question(('x',), text, tables, 0) for text in (one, other))
                self.assertIs(alike(one, other, n, 20000) is None, is_alike)
                self.assertIs(alike(other, one, n, 20000) is None, is_alike)

    def test_loop_questions(self):
        far = Question(('x', 'y'), 'reach x y u v row u v', WEB, 0)
        two = Question(('x', 'y'), 'or same x y or row x y some u and row x u row u y', WEB, 0)
        one = Question(('x', 'y'), 'or same x y row x y', WEB, 0)
        self.assertTrue(self.check(one, far, 3))
        self.assertFalse(self.check(one, far, 2))
        self.assertFalse(self.check(two, far, 3))
        # Two steps are enough among three places, not among four.
        self.assertIs(shows_alike(two, far, 3, 512, ((('row', ((0, 1), (1, 2))),), ())), False)
        self.assertEqual(refused(shows_alike, two, far, 4, 20000, None), (Wide, 20000))

    def test_random_pairs(self):
        rng = random.Random(65)
        parted = 0
        for turn in range(700):
            tables, changed, most_places = SMALL[turn % len(SMALL)]
            head = ('x', 'y', 'b')[:rng.randint(0, 3 if most_places < 3 else 2)]
            one = random_question(rng, tables, changed, head, turn % 4 == 0)
            other = random_question(rng, tables, changed, head, turn % 4 == 0)
            if turn % 3 == 1 and one.is_loopless:
                other = few_names(pushed(one))
            if turn % 3 == 2:
                other = Question(head, f'and {one.text} {one.text}' if turn % 2 else f'not {one.text}', tables, changed)
            parted += self.check(one, other, rng.randint(1, most_places))
        self.assertTrue(200 < parted < 600)

    def test_parted_in_one_store_alone(self):
        """A question that holds in one store alone, whichever it is, is told from one that never does."""
        rng = random.Random(66)
        for n in (2, 3):
            rows = list(itertools.product(range(n), repeat=1))
            pairs = list(itertools.product(range(n), repeat=2))
            for _ in range(12):
                inside = [row for row in rows if rng.random() < 0.5]
                steps = [row for row in pairs if rng.random() < 0.5]
                leaves = [f'less u{at} u{at + 1}' for at in range(n - 1)]
                leaves += [f'in u{at}' if (at,) in inside else f'not in u{at}' for at, in rows]
                leaves += [('' if row in steps else 'not ') + f'row u{row[0]} u{row[1]}' for row in pairs]
                text = ''.join(f'some u{at} ' for at in range(n)) + balanced('and', leaves)
                question = Question((), text, TABLES[:2], 0)
                store = (('row', tuple(steps)), ('in', tuple(inside)))
                self.assertEqual(alike(question, Question((), 'no', TABLES[:2], 0), n, 20000), (store, ()))

    def test_parted_by_one_changed_row_alone(self):
        for row in itertools.product(range(3), repeat=3):
            told = [f'some u some v some w and and less u v less v w and and same {name} {"uvw"[place]} yes'
                    for name, place in zip('pqr', row)]
            text = f'and {told[0]} yes and {told[1]} yes {told[2]} yes'
            one, other = Question((), text, (), 3), Question((), 'no', (), 3)
            self.assertEqual(alike(one, other, 3, 27), ((), row))

    def test_tables_that_none_asks_for(self):
        tables = (('row', 2), ('in', 1), ('odd', 0))
        one, other = Question(('x',), 'in x', tables, 0), Question(('x',), 'not in x', tables, 0)
        store, row = alike(one, other, 2, 128)
        self.assertIs(shows_alike(one, other, 2, 128, (store, row)), True)
        self.assertEqual([name for name, _ in store], ['row', 'in', 'odd'])
        self.assertIs(shows_alike(one, other, 2, 128, ((('row', ((0, 1), (1, 1))), ('in', ()), ('odd', ((),))), ())), True)

    def test_pushed_and_few_names_are_alike_over_three_places(self):
        rng = random.Random(67)
        for turn in range(120):
            tables = TABLES[:1] if turn % 2 else TABLES
            changed = turn % 3 % 2
            text = random_text(rng, tables, ['x'] + ['p'][:changed], rng.randint(3, 6))
            if len(text.split(' ')) > 60:
                continue
            question = Question(('x',), text, tables, changed)
            for n in (1, 2, 3):
                if 2 ** sum(n ** many for _, many in tables) * n ** changed <= 20000:
                    self.assertIsNone(alike(question, pushed(question), n, 20000))
                    self.assertIsNone(alike(few_names(question), question, n, 20000))


class ShowsAlike(unittest.TestCase):
    one = Question(('x',), 'in x', TABLES, 1)
    other = Question(('x',), 'and in x not row x p', TABLES, 1)
    good = ((('row', ((0, 1), (1, 0))), ('in', ((0,), (1,))), ('odd', ())), (1,))

    def shows(self, value, n=2):
        return shows_alike(self.one, self.other, n, 20000, value)

    def test_the_right_one(self):
        self.assertIs(self.shows(self.good), True)
        self.assertIs(self.shows(((self.good[0][0], self.good[0][1], ('odd', ((),))), (0,))), True)

    def test_stores_in_which_both_are_answered_alike(self):
        row, inside, odd = self.good[0]
        for store in ((('row', ()), inside, odd), (row, ('in', ()), odd), (('row', ((0, 0),)), inside, odd)):
            self.assertIs(self.shows((store, (1,))), False)
        self.assertIs(self.shows(((('row', ((0, 0),)), inside, odd), (0,))), True)

    def test_wrong_kinds_of_values(self):
        (row, inside, odd), place = self.good
        values = odd_values() + [
            self.good[0], (self.good[0],), self.good + ((),), list(self.good), (list(self.good[0]), place),
            (self.good[0], [1]), (self.good[0], ()), (self.good[0], (2,)), (self.good[0], (-1,)),
            (self.good[0], (True,)), (self.good[0], (1, 1)), (self.good[0], 1), (self.good[0], None),
            ((row, inside), place), ((row, inside, odd, odd), place), ((inside, row, odd), place),
            ((row, inside, ('odd', None)), place), ((row, inside, ['odd', ()]), place),
            ((('row', ((1, 0), (0, 1))), inside, odd), place), ((('row', ((0, 1), (0, 1), (1, 0))), inside, odd), place),
            ((('row', ((0, True), (1, 0))), inside, odd), place), ((('row', ((0, 1), [1, 0])), inside, odd), place),
            ((('row', [(0, 1), (1, 0)]), inside, odd), place), ((('row', ((0, 1), (1, 0), (1, 2))), inside, odd), place),
            ((('row', ((0, 1), (1,))), inside, odd), place), ((('up', ((0, 1), (1, 0))), inside, odd), place),
            ((row, ('in', ((1,), (0,))), odd), place), ((row, ('in', (0, 1)), odd), place),
            ((row, ('in', ((False,), (1,))), odd), place), (place, self.good[0]), {self.good[0]: place},
        ]
        for value in values:
            with self.subTest(value):
                self.assertIs(self.shows(value), False)

    def test_none_where_they_are_not_alike(self):
        self.assertIs(self.shows(None), False)
        self.assertIs(shows_alike(self.one, self.one, 2, 20000, None), True)
        self.assertIs(shows_alike(self.one, self.one, 2, 20000, self.good), False)
        self.assertIs(shows_alike(self.one, self.one, 2, 20000, False), False)

    def test_values_of_another_n(self):
        self.assertIs(self.shows(self.good, 1), False)
        self.assertIs(shows_alike(self.one, self.other, 2, 256, self.good), True)


class HangsOn(unittest.TestCase):
    def test_told_ones(self):
        told = [
            ('in x', ('in',)), ('row x x', ('row',)), ('or in x and odd not odd', ('in',)), ('yes', ()), ('odd', ('odd',)),
            ('or row x x not row x x', ()), ('and in p odd', ('in', 'odd')), ('or odd or row x p in x', ('in', 'odd', 'row')),
            ('same x p', ()), ('reach x p u v row u v', ('row',)), ('reach x p u v and row u v not row u v', ()),
            ('or in x in x', ('in',)), ('and odd and in x not in x', ()), ('some u and less u x row u x', ('row',)),
        ]
        for text, names in told:
            with self.subTest(text):
                question = Question(('x',), text, TABLES, 1)
                self.assertEqual(hangs_on(question, 2, 256), names)
                self.assertEqual(plain_hangs_on(question, 2), names)

    def test_it_hangs_on_n(self):
        question = Question((), 'some x some y and row x y not same x y', WEB, 0)
        self.assertEqual([hangs_on(question, n, 20000) for n in (1, 2, 3)], [(), ('row',), ('row',)])

    def test_names_ascend(self):
        tables = (('z', 0), ('b', 1), ('a1', 0), ('a', 1))
        question = Question(('x',), 'and z or b x and a1 a x', tables, 0)
        self.assertEqual(hangs_on(question, 2, 64), ('a', 'a1', 'b', 'z'))

    def test_one_row_in_one_store_alone(self):
        text = 'every u every v or and row u v not same u v and not row u v same u v'
        self.assertEqual(hangs_on(Question((), text, WEB, 0), 3, 512), ('row',))

    def test_random_questions(self):
        rng = random.Random(68)
        met = set()
        for turn in range(400):
            tables, changed, most_places = SMALL[turn % len(SMALL)]
            head = ('x', 'y')[:rng.randint(0, 2)]
            question = random_question(rng, tables, changed, head, turn % 3 == 0)
            n = rng.randint(1, min(most_places, 3))
            told = plain_hangs_on(question, n)
            self.assertEqual(hangs_on(question, n, 20000), told, question.text)
            met.add((len(tables), told))
        self.assertGreater(len(met), 10)


class RefusedPairs(Refusals):
    one = Question(('x',), 'in x', TABLES, 1)
    other = Question(('x',), 'not in x', TABLES, 1)

    def check_both(self, kind, value, *given):
        self.check(kind, value, alike, *given)
        for result in (None, 0, ((), ())):
            self.check(kind, value, shows_alike, *given, result)

    def test_what_is_no_question(self):
        for value in odd_values() + ['in x', nested(lambda value: {'x': value})]:
            self.check_both(NoQuestion, value, value, self.other, 2, 256)
            self.check_both(NoQuestion, value, self.one, value, 2, 256)
            self.check(NoQuestion, value, hangs_on, value, 2, 256)

    def test_pairs_that_do_not_go_together(self):
        others = [
            Question(('y',), 'in y', TABLES, 1), Question((), 'odd', TABLES, 1), Question(('x',), 'in x', TABLES, 0),
            Question(('x',), 'in x', TABLES[:2], 1), Question(('x',), 'in x', TABLES[::-1], 1),
            Question(('x', 'y'), 'in x', TABLES, 1), Question(('x',), 'in x', (('row', 1),) + TABLES[1:], 1),
        ]
        for other in others:
            self.check_both(BadPair, (self.one.text, other.text), self.one, other, 2, 256)
            self.check_both(BadPair, (other.text, self.one.text), other, self.one, 2, 256)

    def test_numbers_of_places_and_limits(self):
        for value in [value for value in odd_values() if value is not True] + [True, 0, 6, -1, '2']:
            self.check_both(BadSize, value, self.one, self.other, value, 256)
            self.check(BadSize, value, hangs_on, self.one, value, 256)
        for value in (None, True, False, 0, -1, 20001, '9', (9,), [9], {}, 10 ** 8):
            self.check_both(BadMost, value, self.one, self.other, 2, value)
            self.check(BadMost, value, hangs_on, self.one, 2, value)

    def test_just_enough_and_one_too_few(self):
        told = [
            ((), 0, 5, 1), ((), 1, 5, 5), ((), 3, 5, 125), (IN, 0, 1, 2), (IN, 0, 5, 32), (IN, 2, 3, 72),
            (WEB, 0, 3, 512), (WEB, 1, 3, 1536), (WEB, 2, 2, 64), ((('odd', 0),), 0, 5, 2), ((('odd', 0),), 3, 2, 16),
            (TABLES, 0, 2, 128), (TABLES, 1, 2, 256), (TABLES, 0, 3, 8192), ((('mid', 3),), 0, 1, 2),
            ((('mid', 3),), 2, 2, 1024), ((('in', 1), ('up', 1)), 0, 5, 1024), ((('in', 1), ('up', 1)), 1, 5, 5120),
            (tuple((f'a{at}', 0) for at in range(14)), 0, 5, 16384), (TABLES[:2], 1, 3, 12288),
        ]
        for tables, changed, n, many in told:
            one, other = Question((), 'yes', tables, changed), Question((), 'not no', tables, changed)
            self.assertIsNone(alike(one, other, n, many))
            self.assertIs(shows_alike(one, other, n, many, None), True)
            self.assertEqual(hangs_on(one, n, many), ())
            if many > 1:
                self.check_both(Wide, many - 1, one, other, n, many - 1)
                self.check(Wide, many - 1, hangs_on, one, n, many - 1)

    def test_more_than_any_limit(self):
        many = tuple((f'b{at}', 3) for at in range(200))
        for tables, changed, n in ((WEB, 0, 4), ((('mid', 3),), 0, 3), (TABLES, 2, 3), (IN * 1 + WEB, 0, 5), (many, 3, 5)):
            one = Question((), 'yes', tables, changed)
            self.check_both(Wide, 20000, one, one, n, 20000)
            self.check(Wide, 20000, hangs_on, one, n, 20000)

    def test_the_first_that_is_listed(self):
        loop = Question(('y',), 'reach y y u v yes', (), 0)
        self.check_both(NoQuestion, 'one', 'one', 'other', 0, 0)
        self.check_both(NoQuestion, 'other', self.one, 'other', 0, 0)
        self.check_both(BadPair, (self.one.text, loop.text), self.one, loop, 0, 0)
        self.check_both(BadSize, 0, self.one, self.other, 0, 0)
        self.check_both(BadMost, 0, self.one, self.other, 5, 0)
        self.check_both(Wide, 255, self.one, self.other, 2, 255)
        self.check(NoQuestion, None, hangs_on, None, None, None)
        self.check(BadSize, None, hangs_on, loop, None, None)
        self.check(BadMost, None, hangs_on, loop, 1, None)

    def test_arguments_by_name(self):
        given = {'one': self.one, 'other': self.other, 'n': 2, 'most': 256}
        told = alike(**given)
        self.assertIs(shows_alike(value=told, **given), True)
        self.assertEqual(hangs_on(most=256, question=self.one, n=2), ('in',))
