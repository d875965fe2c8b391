"""Section 4: what Question refuses ahead of its text, what it tells, equality, width."""

import operator
import random
import unittest

from tests.plain import KEYWORDS, nested, odd_values, plain_width, random_asked
from withoutloops.asks import Question, width
from withoutloops.errors import BadChanged, BadHead, BadQuestion, BadTables, LoopError, NoQuestion

TABLES = (('row', 2), ('in', 1))


def refused(*given):
    """The error of Question, and its value."""
    try:
        Question(*given)
    except LoopError as error:
        return type(error), error.value
    return None


class Refusals(unittest.TestCase):
    def check(self, kind, value, *given):
        told = refused(*given)
        self.assertIsNotNone(told, given)
        self.assertIs(told[0], kind)
        self.assertIs(told[1], value)

    def test_heads_that_are_none(self):
        heads = [head for head in odd_values() if not isinstance(head, tuple) or head]
        heads += [
            ('x', 'y', 'z', 'u'), ('x', 'x'), ('x', 'y', 'x'), ['x', 'y'], 'xy', ('x', None), ('x', True), ('x', 1),
            ('x', ['y']), ('',), ('1x',), ('X',), ('x_',), ('a b',), ('x\n',), ('abcdefg',), ({},),
            (nested(lambda value: (value,)),),
        ]
        for head in heads:
            with self.subTest(head):
                self.check(BadHead, head, head, 'yes', (), 0)

    def test_words_of_questions_and_keepers_are_no_names(self):
        for word in KEYWORDS:
            with self.subTest(word):
                self.check(BadHead, head := ('x', word), head, 'yes', (), 0)
                self.check(BadTables, tables := ((word, 1),), (), 'yes', tables, 0)
                self.assertEqual(refused((), f'some {word} yes', (), 3), (BadQuestion, 2))

    def test_heads_and_tables_that_are_right(self):
        heads = [(), ('x',), ('x', 'y'), ('x', 'y', 'z'), ('a', 'z9', 'abcdef'), ('size', 'deeds', 'undo'), ('a12345',)]
        for head in heads:
            self.assertIs(Question(head, 'yes', (), 0).head, head)
        many = tuple((f'a{number}', number % 4) for number in range(40))
        for tables in ((), (('a', 0), ('b', 1), ('c', 2), ('d', 3)), (('abcdef', 3),), (('z9', 0),), many):
            self.assertIs(Question(('x', 'y'), 'yes', tables, 0).tables, tables)

    def test_tables_that_are_none(self):
        tables = [value for value in odd_values() if value != ()]
        tables += [
            (('row', 4),), (('row', -1),), (('row', True),), (('row', False),), (('row', None),), (('row', '2'),),
            (('row', (2,)),), (('row', 2), ('row', 2)), (('row', 2), ('in', 1), ('row', 1)), (['row', 2],),
            [('row', 2)], (('row',),), (('row', 2, 2),), ('row', 2), (('x', 1),), (('in', 1), ('y', 2)), (('', 1),),
            (('Row', 1),), (('1', 1),), ((1, 1),), ((None, 1),), (('abcdefg', 1),), ((('row',), 2),), (([], 1),),
            {'row': 2}, 'row', (('row', 2), None), (('row', 2), ()),
        ]
        for some in tables:
            with self.subTest(some):
                self.check(BadTables, some, ('x', 'y'), 'yes', some, 0)

    def test_numbers_of_changed_places_that_are_none(self):
        for changed in [value for value in odd_values() if value != 0 or isinstance(value, bool)] + [4, -1, '0', (1,)]:
            with self.subTest(changed):
                self.check(BadChanged, changed, ('x', 'y'), 'yes', TABLES, changed)

    def test_the_first_that_is_listed(self):
        head, tables, changed = ['x'], [('row', 2)], True
        self.check(BadHead, head, head, 'yes no', tables, changed)
        self.check(BadTables, tables, ('x',), 'yes no', tables, changed)
        self.check(BadChanged, changed, ('x',), 'yes no', TABLES, changed)
        self.assertEqual(refused(('x',), 'yes no', TABLES, 1), (BadQuestion, 2))
        self.check(BadHead, head, head, None, TABLES, 4)
        self.check(BadTables, tables, (), None, tables, 4)
        self.assertEqual(refused((), None, (), 0), (BadQuestion, 0))

    def test_a_name_of_the_head_and_of_a_table(self):
        self.check(BadTables, tables := (('in', 1), ('x', 1)), ('x',), 'yes', tables, 0)
        self.assertIsNone(refused(('y',), 'x y', (('x', 1),), 0))


class Properties(unittest.TestCase):
    def test_by_position_and_by_name(self):
        head, text = ('x',), 'some u row x u'
        one = Question(head, text, TABLES, 2)
        other = Question(changed=2, tables=TABLES, text=text, head=head)
        for question in (one, other):
            self.assertIs(question.head, head)
            self.assertIs(question.text, text)
            self.assertIs(question.tables, TABLES)
            self.assertEqual(question.changed, 2)
            self.assertIs(question.is_loopless, True)
            self.assertEqual(question.deep, 2)
        self.assertEqual(width(question=one), 2)

    def test_loop_questions(self):
        for text, loopless in (
            ('yes', True), ('reach x x u v yes', False), ('not and yes reach x x u v row u v', False),
            ('some reachs in reachs', True), ('some rea in rea', True), ('some reach yes', None),
        ):
            if loopless is None:
                self.assertEqual(refused(('x',), text, TABLES, 0), (BadQuestion, 2))
            else:
                self.assertIs(Question(('x',), text, TABLES, 0).is_loopless, loopless)

    def test_equality(self):
        given = (('x', 'y'), 'row x y', TABLES, 0)
        one = Question(*given)
        self.assertTrue(one == Question(*given) and not one != Question(*given))
        for at, otherwise in enumerate((('y', 'x'), 'row y x', TABLES[:1], 1)):
            other = Question(*given[:at], otherwise, *given[at + 1:])
            self.assertFalse(one == other)
            self.assertTrue(one != other)
        self.assertFalse(Question((), 'yes', (), 0) == Question((), 'yes', TABLES, 0))
        self.assertFalse(Question(('x',), 'yes', (), 0) == Question((), 'yes', (), 0))

    def test_equal_nothing_else(self):
        question = Question((), 'yes', (), 0)
        for value in odd_values() + [((), 'yes', (), 0), 'yes']:
            self.assertIs(question == value, False)
            self.assertIs(value == question, False)
            self.assertIs(question != value, True)
            self.assertIs(value != question, True)

    def test_other_operators(self):
        question = Question((), 'yes', (), 0)
        signs = [
            operator.lt, operator.le, operator.gt, operator.ge, operator.add, operator.sub, operator.mul,
            operator.floordiv, operator.mod, operator.and_, operator.or_, operator.xor, operator.lshift,
            operator.pow, operator.contains, operator.getitem,
        ]
        for sign in signs:
            for other in (question, Question((), 'yes', (), 0), 1, 'yes', (), None):
                with self.assertRaises(TypeError):
                    sign(question, other)
        for call in (len, iter, operator.neg, abs, operator.invert):
            with self.assertRaises(TypeError):
                call(question)


class Width(unittest.TestCase):
    def test_told(self):
        told = [
            ((), 'yes', 0, 0), (('x',), 'yes', 0, 1), (('x', 'y', 'z'), 'no', 0, 3), (('x',), 'same x x', 0, 1),
            ((), 'row p q', 2, 0), (('x',), 'row p x', 2, 1), ((), 'some u yes', 0, 1), ((), 'every u yes', 0, 1),
            ((), 'reach p p u v yes', 1, 2), ((), 'reach p q u v row u v', 2, 2),
            (('x', 'y'), 'reach x y u v yes', 0, 2), (('x', 'y'), 'reach x y u v row x u', 0, 3),
            (('x', 'y'), 'reach x y u v and row x u row y v', 0, 4),
            (('x', 'y'), 'reach x x x y row x y', 0, 2), (('x',), 'reach x x u v and row u v in x', 0, 3),
            ((), 'some x and in x some x in x', 0, 1), ((), 'some x some x in x', 0, 1),
            ((), 'some x some y yes', 0, 1), ((), 'some x some y in x', 0, 2), ((), 'some x some y in y', 0, 1),
            (('x',), 'some x in x', 0, 1), (('x',), 'some u in u', 0, 1), (('x',), 'some u in x', 0, 2),
            (('x', 'y'), 'and some u row x u some u row u y', 0, 2), (('x', 'y'), 'some u and row x u row u y', 0, 3),
            ((), 'some a some b some c and row a b and row b c row c a', 0, 3),
            ((), 'some a and in a some b and row a b some a and row b a in a', 0, 2),
            ((), 'some a not every b or in b not some c row p c', 3, 1),
        ]
        for head, text, changed, wide in told:
            with self.subTest(text):
                question = Question(head, text, TABLES, changed)
                self.assertEqual(width(question), wide)
                self.assertEqual(plain_width(question), wide)

    def test_beside_names_counted_anew(self):
        rng = random.Random(42)
        met = set()
        for _ in range(2000):
            question, _, _ = random_asked(rng, 2, rng.randint(1, 8), rng.random() < 0.5)
            met.add(width(question))
            self.assertEqual(width(question), plain_width(question), question.text)
        self.assertGreater(len(met), 5)

    def test_what_is_no_question(self):
        for value in odd_values() + ['yes', ((), 'yes', (), 0), Question]:
            with self.assertRaises(NoQuestion) as caught:
                width(value)
            self.assertIs(caught.exception.value, value)
