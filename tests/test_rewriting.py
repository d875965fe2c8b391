"""Sections 6 and 3 (a): questions with `not` pushed inward, and with few names."""

import itertools
import random
import unittest

from tests.plain import (
    all_pairs, all_parts, balanced, free, nested, odd_values, plain_answer, plain_width, random_text, tree,
)
from tests.refusing import refused
from withoutloops.asks import Question, width
from withoutloops.errors import BadQuestion, HasLoop, NoQuestion
from withoutloops.rewriting import few_names, pushed

TABLES = (('row', 2), ('in', 1), ('odd', 0))
OTHERS = {'yes': 'no', 'no': 'yes', 'and': 'or', 'or': 'and', 'some': 'every', 'every': 'some'}

# Questions of each form, x and y being alive.
LEAVES = ['yes', 'no', 'same x y', 'less x y', 'row x y', 'in x', 'odd']
OUTER = ['not {}', 'and {} in y', 'and in y {}', 'or {} odd', 'or odd {}', 'some x {}', 'every y {}', 'some u {}']


def written(part):
    word, places, bound, within = part
    return ' '.join([word, *places, *bound, *[written(inner) for inner in within]])


def pushed_once(part):
    """The part with the first `not`, from without inward, pushed behind the word that it stands ahead of."""
    word, places, bound, within = part
    if word == 'not':
        inner = within[0]
        if inner[0] == 'not':
            return inner[3][0]
        if inner[0] in OTHERS:
            return OTHERS[inner[0]], inner[1], inner[2], tuple(('not', (), (), (one,)) for one in inner[3])
    for at, inner in enumerate(within):
        other = pushed_once(inner)
        if other != inner:
            return word, places, bound, within[:at] + (other,) + within[at + 1:]
    return part


def plain_pushed(question):
    """The text with `not` pushed, step by step, until there is nothing left to push."""
    part = tree(question.text, question.tables)
    while pushed_once(part) != part:
        part = pushed_once(part)
    return written(part)


def are_answered_alike(one, other, most_places):
    for n in range(1, most_places + 1):
        for store, row in all_pairs(one.tables, one.changed, n):
            if plain_answer(one, n, store, row) != plain_answer(other, n, store, row):
                return False
    return True


class Pushed(unittest.TestCase):
    def check(self, question):
        told = pushed(question)
        self.assertIsInstance(told, Question)
        self.assertEqual(told.text, plain_pushed(question), question.text)
        self.assertEqual(told, Question(question.head, told.text, question.tables, question.changed))
        words = told.text.split(' ')
        names = ['same', 'less'] + [name for name, _ in question.tables]
        for word, behind in zip(words, words[1:] + ['']):
            self.assertTrue(word != 'not' or behind in names, told.text)
        self.assertEqual(pushed(told), told)
        return told

    def test_told_ones(self):
        told = [
            ('not yes', 'no'), ('not no', 'yes'), ('not not odd', 'odd'), ('not not not odd', 'not odd'),
            ('not same x y', 'not same x y'), ('not less x y', 'not less x y'), ('not row x y', 'not row x y'),
            ('not and in x odd', 'or not in x not odd'), ('not or in x odd', 'and not in x not odd'),
            ('not some u in u', 'every u not in u'), ('not every u in u', 'some u not in u'),
            ('and not yes not not no', 'and no no'), ('not and not in x or yes odd', 'or in x and no not odd'),
            ('some u not every v not some x row x u', 'some u some v some x row x u'),
            ('not not and not not in x not or odd no', 'and in x and not odd yes'), ('yes', 'yes'),
            ('not every x and row x y not some y less y x', 'some x or not row x y some y less y x'),
        ]
        for text, other in told:
            with self.subTest(text):
                self.assertEqual(self.check(Question(('x', 'y'), text, TABLES, 0)).text, other)

    def test_each_pair_of_words_within_each_other(self):
        for outer, inner, leaf in itertools.product(OUTER, OUTER, LEAVES):
            text = outer.format(inner.format(leaf))
            for whole in (text, f'not {text}', f'and {text} not {text}'):
                question = Question(('x', 'y'), whole, TABLES, 0)
                told = self.check(question)
                if whole == text:
                    self.assertTrue(are_answered_alike(question, told, 1), whole)

    def test_answered_alike_over_two_and_three_places(self):
        rng = random.Random(61)
        asked = [(TABLES[1:], 3, 25), (TABLES[1:2], 3, 25), (TABLES[:1], 2, 25), (TABLES[:1] + TABLES[2:], 2, 15)]
        for tables, most, times in asked:
            for _ in range(times):
                head = ('x', 'y', 'b')[:rng.randint(0, 2)]
                changed = rng.randint(0, 1)
                alive = list(head) + ['p'][:changed]
                text = 'not ' + random_text(rng, tables, alive, rng.randint(2, 5))
                question = Question(head, text, tables, changed)
                self.assertTrue(are_answered_alike(question, self.check(question), most), text)

    def test_answered_alike_over_all_webs_of_three_places(self):
        for text in ('not some u and row x u not row u x', 'not every u or not row x u some x not and row u x row x p'):
            question = Question(('x',), text, TABLES[:1], 1)
            self.assertTrue(are_answered_alike(question, self.check(question), 3))

    def test_random_texts(self):
        rng = random.Random(62)
        depths = set()
        for _ in range(1500):
            text = random_text(rng, TABLES, ['x', 'p', 'q'], rng.randint(2, 9), asks=0.9)
            if len(text.split(' ')) < 66:
                question = Question(('x',), text, TABLES, 2)
                told = self.check(question)
                self.assertLessEqual(told.deep, question.deep)
                depths.add(told.deep)
        self.assertGreater(len(depths), 7)

    def test_texts_that_come_out_too_long(self):
        def wide(leaves):
            return balanced('or', ['in x'] * leaves)

        for leaves in (24, 25):
            # leaves times `in x`, one word `or` less; one `not` becomes as many as there are leaves.
            many = leaves * 2 + leaves - 1
            question = Question(('x',), f'not {wide(leaves)}', TABLES, 0)
            self.assertEqual(len(question.text.split(' ')), many + 1)
            self.assertEqual(len(pushed(question).text.split(' ')), many + leaves)
        question = Question(('x',), f'not or odd {wide(25)}', TABLES, 0)
        self.assertEqual(refused(pushed, question), (BadQuestion, 101))
        question = Question(('x',), f'not or yes or no {wide(24)}', TABLES, 0)
        self.assertEqual(len(pushed(question).text.split(' ')), 99)
        question = Question(('x',), f'not or odd or no {wide(24)}', TABLES, 0)
        self.assertEqual(len(pushed(question).text.split(' ')), 100)
        question = Question(('x',), f'not or odd or odd {wide(24)}', TABLES, 0)
        self.assertEqual(refused(pushed, question), (BadQuestion, 101))
        question = Question(('x',), f'not not or odd or odd {wide(24)}', TABLES, 0)
        self.assertEqual(pushed(question).text, question.text[8:])

    def test_head_tables_and_changed_stay(self):
        question = Question(('z', 'a'), 'not or p0 less p z', (('p0', 0), ('up', 3)), 3)
        told = pushed(question)
        self.assertEqual((told.head, told.tables, told.changed), (question.head, question.tables, 3))
        self.assertEqual((told.text, question.text), ('and not p0 not less p z', 'not or p0 less p z'))


class FewNames(unittest.TestCase):
    def check(self, question):
        told = few_names(question)
        self.assertIsInstance(told, Question)
        self.assertEqual((told.head, told.tables, told.changed), (question.head, question.tables, question.changed))
        self.check_names(question, told)
        bound = {name for part in all_parts(tree(told.text, told.tables)) for name in part[2]}
        self.assertEqual(len(bound | set(told.head)), width(question), question.text)
        self.assertEqual(plain_width(told), plain_width(question))
        return told

    def check_names(self, question, told):
        """Beside the words of DOC.md: each name asks for the same, and is the first that it can be."""
        names = {name for name, _ in question.tables} | set(question.head)
        pool = list(question.head) + [f'a{at}' for at in range(40) if f'a{at}' not in names]

        def walk(one, other, called):
            self.assertEqual((one[0], [called[name] for name in one[1]]), (other[0], list(other[1])))
            if one[2]:
                fresh = other[2][0]
                # Free names as they are called by then: those that are free in E, but for X, called as they were.
                taken = {called[name] for name in free(one[3][0]) if name != one[2][0]}
                self.assertEqual(fresh, next(name for name in pool if name not in taken), told.text)
                called = {**called, one[2][0]: fresh}
            self.assertEqual(len(one[3]), len(other[3]))
            for inner, within in zip(one[3], other[3]):
                walk(inner, within, called)

        alive = {name: name for name in question.head + ('p', 'q', 'r')}
        walk(tree(question.text, question.tables), tree(told.text, told.tables), alive)

    def test_told_ones(self):
        told = [
            (('x',), 'some u row x u', 'some a0 row x a0'), (('x',), 'some u in u', 'some x in x'),
            ((), 'some u some v row u v', 'some a0 some a1 row a0 a1'), ((), 'some u in u', 'some a0 in a0'),
            ((), 'some u and in u some v in v', 'some a0 and in a0 some a0 in a0'),
            (('x', 'y'), 'every u row x u', 'every y row x y'), (('x', 'y'), 'every u row y u', 'every x row y x'),
            (('x', 'y'), 'some u and row x u row u y', 'some a0 and row x a0 row a0 y'),
            (('a1',), 'some u some v and row u v in a1', 'some a0 some a2 and row a0 a2 in a1'),
            (('a0',), 'some u row u a0', 'some a1 row a1 a0'), (('x',), 'some x in x', 'some x in x'),
            (('x',), 'some x and in x some x in x', 'some x and in x some x in x'),
            (('x',), 'and in x some x some u row x u', 'and in x some x some a0 row x a0'),
            (('x',), 'every u some x row u x', 'every x some a0 row x a0'),
            ((), 'some a1 some a0 row a0 a1', 'some a0 some a1 row a1 a0'), (('x',), 'some u yes', 'some x yes'),
            ((), 'some u row u p', 'some a0 row a0 p'), (('x',), 'some u row p q', 'some x row p q'),
            (('z', 'y', 'x'), 'some u and row z u row x u', 'some y and row z y row x y'),
        ]
        for head, text, other in told:
            with self.subTest(text):
                question = Question(head, text, TABLES, 2)
                self.assertEqual(self.check(question).text, other)
                self.assertTrue(are_answered_alike(question, few_names(question), 1))

    def test_names_of_tables_are_left_out(self):
        tables = (('a0', 1), ('a2', 2), ('a3', 0))
        question = Question((), 'some u some v and a2 u v some w and a0 w or a2 u w a2 w v', tables, 0)
        self.assertEqual(self.check(question).text, 'some a1 some a4 and a2 a1 a4 some a5 and a0 a5 or a2 a1 a5 a2 a5 a4')
        question = Question(('a1',), 'some a4 and a2 a1 a4 some a1 a2 a4 a1', tables, 0)
        self.assertEqual(self.check(question).text, 'some a4 and a2 a1 a4 some a1 a2 a4 a1')
        question = Question(('a1',), 'some b some c and a2 b a1 a2 c b', tables, 0)
        self.assertEqual(self.check(question).text, 'some a4 some a5 and a2 a4 a1 a2 a5 a4')

    def test_a_name_that_would_be_caught_within(self):
        # The outer one is called a0, as an inner one was called before: this one has to give way.
        question = Question((), 'some u some a0 and row u a0 in u', TABLES, 0)
        self.assertEqual(self.check(question).text, 'some a0 some a1 and row a0 a1 in a0')
        question = Question(('x',), 'some u and in u some x row u x', TABLES, 0)
        self.assertEqual(self.check(question).text, 'some x and in x some a0 row x a0')

    def test_heads_of_none_to_three_names(self):
        rng = random.Random(63)
        heads = [(), ('x',), ('x', 'y'), ('y', 'x', 'b'), ('a0',), ('a1', 'x'), ('a2', 'a0', 'a1'), ('a3',)]
        widths = set()
        for turn in range(1600):
            head = heads[turn % len(heads)]
            tables = TABLES if turn % 3 else (('a0t', 1), ('a4', 2))
            pool = ('x', 'y', 'u', 'v', 'a0', 'a1', 'a2', 'b', 'w')
            alive = list(head) + ['p', 'q'][:turn % 2 + 1]
            text = random_text(rng, tables, alive, rng.randint(2, 9), False, 0.9, pool)
            if len(text.split(' ')) <= 100:
                widths.add((len(head), width(self.check(Question(head, text, tables, 2)))))
        self.assertGreater(len(widths), 15)

    def test_answered_alike(self):
        rng = random.Random(64)
        pool = ('x', 'y', 'u', 'v', 'a0', 'a1')
        asked = [(TABLES[1:], 3, 25), (TABLES[:1], 2, 40), (TABLES[:1] + TABLES[2:], 2, 15)]
        for tables, most, times in asked:
            for _ in range(times):
                head = ('x', 'a0', 'b')[:rng.randint(0, 2)]
                changed = rng.randint(0, 1)
                alive = list(head) + ['p'][:changed]
                text = random_text(rng, tables, alive, rng.randint(3, 6), False, 0.9, pool)
                if len(text.split(' ')) <= 40:
                    question = Question(head, text, tables, changed)
                    self.assertTrue(are_answered_alike(question, self.check(question), most), text)

    def test_answered_alike_over_all_webs_of_three_places(self):
        text = 'some u and row x u some v and row v u every w not row v w'
        question = Question(('x',), text, TABLES[:1], 0)
        self.assertTrue(are_answered_alike(question, self.check(question), 3))

    def test_long_and_deep_texts(self):
        deep = Question((), ' '.join(f'some u{at}' for at in range(13)) + ' in u12', TABLES, 0)
        self.assertEqual(self.check(deep).text, 'some a0 ' * 13 + 'in a0')
        names = [f'u{at}' for at in range(11)]
        # Nested as shallow as can be, all names free together.
        leaves = [f'row {one} {other}' for one, other in zip(names, names[1:])]
        bound = ' '.join(f'every {name}' for name in names)
        self.assertEqual(self.check(Question((), f'{bound} yes', TABLES, 0)).text, 'every a0 ' * 11 + 'yes')
        bound = ' '.join(f'every {name}' for name in names[:8])
        wide = Question((), f'{bound} {balanced("or", leaves[:7])}', TABLES, 0)
        self.assertEqual(width(self.check(wide)), 8)
        self.assertEqual(few_names(wide).text, wide.text.replace('u', 'a'))


class Refusals(unittest.TestCase):
    def test_what_is_no_question(self):
        for value in odd_values() + ['in x', ('in x',), Question, nested(lambda value: [value]), (('x',), 'yes', (), 0)]:
            for call in (pushed, few_names):
                with self.subTest((call, value)):
                    kind, told = refused(call, value)
                    self.assertIs(kind, NoQuestion)
                    self.assertIs(told, value)

    def test_loop_questions(self):
        for text in ('reach x x u v row u v', 'not some u reach u x u v yes', 'and yes not reach x x u v no'):
            question = Question(('x',), text, TABLES, 0)
            self.assertEqual(refused(pushed, question), (HasLoop, text))
            self.assertEqual(refused(few_names, question), (HasLoop, text))

    def test_arguments_by_name_and_equal_results(self):
        question = Question(('x',), 'not some u row x u', TABLES, 0)
        same = Question(('x',), 'not some u row x u', TABLES, 0)
        self.assertEqual(pushed(question=question), pushed(same))
        self.assertEqual(few_names(question=question), few_names(same))
        self.assertEqual(question, same)
