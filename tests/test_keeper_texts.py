"""Section 7: which texts are keepers, and the number of the line that is refused."""

import itertools
import random
import unittest

from tests.plain import KEYWORDS, balanced, odd_values
from tests.plain_keepers import plain_number
from withoutloops.errors import BadKeeper
from withoutloops.keepers import Keeper

# A text with each form of line.
FULL = [
    'told row 2', 'told in 1', 'told odd 0', 'kept go 2', 'kept up 1', 'kept mid 3', 'kept even 0',
    'first go x y is same x y', 'first even is yes',
    'put row', 'let new is not row p q', 'bar same p q', 'let far x y z is and go x y go y z',
    'set go x y is or go x y and go x p go q y', 'bar and new far p q p', 'set even is not even',
    'strike row', 'set mid x y z is and go x y row y z', 'put in', 'set up x is or up x same x p', 'strike in', 'put odd',
    'bar odd', 'set even is no', 'answer x is some y go x y', 'wish x is reach x x u v row u v',
]


def number_of(lines):
    """What BadKeeper tells, None if the lines are a keeper's."""
    try:
        Keeper('\n'.join(lines))
    except BadKeeper as error:
        return error.value
    return None


class Forms(unittest.TestCase):
    def check(self, lines):
        told = plain_number('\n'.join(lines))
        self.assertEqual(number_of(lines), told, lines)
        return told

    def test_each_form(self):
        keeper = Keeper('\n'.join(FULL))
        self.assertEqual(keeper.text, '\n'.join(FULL))
        self.assertEqual(keeper.told, (('row', 2), ('in', 1), ('odd', 0)))
        self.assertEqual(keeper.kept, (('go', 2), ('up', 1), ('mid', 3), ('even', 0)))
        self.assertIs(keeper.has_wish, True)
        self.assertIs(Keeper('\n'.join(FULL[:-1])).has_wish, False)
        self.assertIsNone(self.check(FULL))

    def test_the_shortest(self):
        keeper = Keeper('told a 0\nanswer is yes')
        self.assertEqual((keeper.told, keeper.kept, keeper.has_wish), ((('a', 0),), (), False))
        self.assertEqual(Keeper('told a 0\nkept b 3\nanswer is a').kept, (('b', 3),))

    def test_each_line_left_out_or_twice(self):
        for at in range(len(FULL)):
            with self.subTest(FULL[at]):
                self.check(FULL[:at] + FULL[at + 1:])
                self.check(FULL[:at] + [FULL[at]] + FULL[at:])
                self.check(FULL + [FULL[at]])
                self.check(FULL[:-1] + [FULL[at]] + FULL[-1:])

    def test_lines_out_of_sequence(self):
        for at, to in itertools.product(range(len(FULL)), repeat=2):
            lines = FULL[:at] + FULL[at + 1:]
            self.check(lines[:to] + [FULL[at]] + lines[to:])
            lines = list(FULL)
            lines[at], lines[to] = lines[to], lines[at]
            self.check(lines)

    def test_texts_that_end_early(self):
        for many in range(len(FULL) - 2):
            self.assertEqual(number_of(FULL[:many + 1]), many + 2)

    def test_each_word_otherwise(self):
        words = ['row', 'go', 'mid', 'new', 'far', 'x', 'p', 'q', 'r', 'is', 'yes', 'reach', '', '0', '1', '3', '4', 'set',
                 'zz', 'put', 'Row', 'kept', 'told', 'x y']
        right = 0
        for at, line in enumerate(FULL):
            parts = line.split(' ')
            for place in range(len(parts)):
                lines = [parts[:place] + parts[place + 1:], parts[:place] + [parts[place]] + parts[place:]]
                lines += [parts[:place] + [word] + parts[place + 1:] for word in words]
                lines += [parts[:place] + [word] + parts[place:] for word in words]
                lines += [parts + [word] for word in words]
                for some in lines:
                    right += self.check(FULL[:at] + [' '.join(some)] + FULL[at + 1:]) is None
        self.assertGreater(right, 50)

    def test_random_changes_of_texts(self):
        rng = random.Random(71)
        numbers = set()
        vocabulary = [word for line in FULL for word in line.split(' ')] + ['', 'zz', 'p', 'q', 'reach', '2', 'u']
        for _ in range(4000):
            lines = list(FULL)
            for _ in range(rng.randint(1, 3)):
                at = rng.randrange(len(lines))
                words = lines[at].split(' ')
                place = rng.randrange(len(words))
                words[place:place + rng.randint(0, 1)] = [rng.choice(vocabulary)] * rng.randint(0, 1)
                lines[at] = ' '.join(words)
                if rng.random() < 0.2:
                    lines.insert(rng.randrange(len(lines)), lines[rng.randrange(len(lines))])
            numbers.add(self.check(lines))
        self.assertGreater(len(numbers), 20)


class Tables(unittest.TestCase):
    def test_one_to_three_told_and_four(self):
        for many in (1, 2, 3, 4, 5):
            lines = [f'told a{at} 1' for at in range(many)] + ['answer is yes']
            self.assertEqual(number_of(lines), None if many < 4 else 4)
        self.assertEqual(number_of(['answer is yes']), 1)
        self.assertEqual(number_of(['kept a 1', 'answer is yes']), 1)

    def test_none_to_sixteen_kept_and_seventeen(self):
        for many in (0, 1, 15, 16, 17, 18):
            lines = ['told a 1'] + [f'kept b{at} 3' for at in range(many)] + ['answer is yes']
            self.assertEqual(number_of(lines), None if many < 17 else 18)

    def test_how_many_places(self):
        for word, right in (('told', ('0', '1', '2')), ('kept', ('0', '1', '2', '3'))):
            for many in ('0', '1', '2', '3', '4', '-1', '01', '+1', '1.', 'one', '', ' 1', '1 '):
                lines = ['told a 1', f'{word} b {many}', 'answer is yes']
                self.assertEqual(number_of(lines), None if many in right else 2, (word, many))

    def test_names(self):
        for word in ('told', 'kept'):
            for name in ('b', 'abcdef', 'z9', 'a00000', 'size', 'b1c2', 'deeds'):
                self.assertIsNone(number_of(['told a 1', f'{word} {name} 1', 'answer is yes']))
            for name in list(KEYWORDS) + ['', '1b', 'B', 'b_', 'abcdefg', 'a', '-', 'b.']:
                self.assertEqual(number_of(['told a 1', f'{word} {name} 1', 'answer is yes']), 2)
        self.assertEqual(number_of(['told a 1', 'kept b 1', 'kept b 2', 'answer is yes']), 3)
        self.assertEqual(number_of(['told a 1', 'told b 1', 'kept b 1', 'answer is yes']), 3)

    def test_told_behind_kept(self):
        self.assertEqual(number_of(['told a 1', 'kept b 1', 'told c 1', 'answer is yes']), 3)


class Questions(unittest.TestCase):
    head = ['told row 2', 'told in 1', 'told odd 0', 'kept go 2', 'kept up 1', 'kept even 0']

    def line(self, line, *behind):
        """Whether a line can stand behind the told and kept tables."""
        told = number_of(self.head + [line, *behind, 'answer is yes'])
        self.assertIn(told, (None, 7))
        return told is None

    def inside(self, section, *lines):
        """The number of the line of a section that is refused, from 1."""
        told = number_of(self.head + [section, *lines, 'answer is yes'])
        return None if told is None else told - 7

    def test_first(self):
        right = ['first go x y is same x y', 'first go y x is less x y', 'first up x is yes', 'first even is no',
                 'first go a b is some u same u a', 'first even is every u some v less u v']
        wrong = ['first go x is yes', 'first go x y z is yes', 'first go is yes', 'first row x y is yes', 'first in x is yes',
                 'first no is yes', 'first', 'first go', 'first go x y', 'first go x y is', 'first go x y yes', 'first is yes',
                 'first go x y is go x y', 'first go x y is row x y', 'first up x is odd', 'first up x is even',
                 'first even is some u in u', 'first go x y is reach x y u v same u v', 'first go x x is yes',
                 'first up x is same x p', 'first go p q is yes', 'first go x up is yes', 'first go x in is yes',
                 'first up x is some go yes', 'first up x is some in yes', 'first up x is same x y', 'first even is same x x',
                 'first up x is is yes', 'first go x is y is yes', 'first up x is yes is', 'First up x is yes']
        for line in right:
            self.assertTrue(self.line(line), line)
        for line in wrong:
            self.assertFalse(self.line(line), line)

    def test_first_twice(self):
        self.assertEqual(number_of(self.head + ['first up x is yes', 'first up y is yes', 'answer is yes']), 8)
        self.assertIsNone(number_of(self.head + ['first up x is yes', 'first go y x is yes', 'answer is yes']))

    def test_sections(self):
        for line in ('put row', 'strike row', 'put in', 'strike odd'):
            self.assertTrue(self.line(line))
        for line in ('put', 'put go', 'put up', 'strike even', 'put no', 'put row 2', 'put row x', 'strike', 'put row ', 'Put row'):
            self.assertFalse(self.line(line), line)
        every = [f'{word} {name}' for word in ('strike', 'put') for name in ('odd', 'row', 'in')]
        self.assertIsNone(number_of(self.head + every + ['answer is yes']))
        self.assertEqual(number_of(self.head + every + ['put row', 'answer is yes']), 13)
        self.assertEqual(number_of(self.head + ['put row', 'put row', 'answer is yes']), 8)
        self.assertEqual(number_of(self.head + ['put in', 'first up x is yes', 'answer is yes']), 8)

    def test_lines_of_sections_outside_of_them(self):
        for line in ('let a is yes', 'bar no', 'set even is yes'):
            self.assertFalse(self.line(line))
            self.assertEqual(number_of(self.head + ['answer is yes', line]), 8)
            self.assertIsNone(self.inside('put row', line))

    def test_places_of_the_changed_row(self):
        told = [
            ('put row', 'bar row p q', None), ('put row', 'bar same p r', 1), ('put in', 'bar in p', None),
            ('put in', 'bar row p q', 1), ('put odd', 'bar in p', 1), ('put odd', 'bar odd', None),
            ('strike row', 'set go x y is row p y', None), ('strike in', 'set up x is same x q', 1),
            ('strike in', 'let a x is less x p', None), ('strike odd', 'let a x is less x p', 1),
        ]
        for section, line, number in told:
            self.assertEqual(self.inside(section, line), number, line)
        # The section, not the last of any, tells which places there are.
        self.assertEqual(self.inside('put row', 'bar row p q', 'put in', 'bar row p q'), 3)

    def test_lets(self):
        right = ['let a is yes', 'let a x is in x', 'let a x y is row x y', 'let a x y z is and go x y go y z',
                 'let a x is even', 'let u u is some u in u', 'let x x y is same x y', 'let a is some a up a']
        wrong = ['let', 'let a', 'let a x', 'let is yes', 'let a yes', 'let a x y z u is yes', 'let row is yes', 'let go is yes',
                 'let even is yes', 'let p is yes', 'let q x is yes', 'let bar is yes', 'let a p is yes', 'let a x x is yes',
                 'let a go is yes', 'let a x is a x', 'let a is', 'let a is x', 'let A is yes', 'let a x is reach x x u v yes',
                 'let a in is yes', 'let abcdefg is yes', 'let a x is same x r', 'let a is some go yes']
        for line in right:
            self.assertIsNone(self.inside('put row', line), line)
        for line in wrong:
            self.assertEqual(self.inside('put row', line), 1, line)

    def test_lets_asked_ahead_of_their_line(self):
        self.assertIsNone(self.inside('put row', 'let a is yes', 'bar a'))
        self.assertEqual(self.inside('put row', 'bar a', 'let a is yes'), 1)
        self.assertEqual(self.inside('put row', 'let b x is a x', 'let a x is in x'), 1)
        self.assertIsNone(self.inside('put row', 'let a x is in x', 'let b x is a x', 'set up x is b x'))
        self.assertEqual(self.inside('put row', 'let a x is in x', 'strike row', 'set up x is a x'), 3)
        self.assertEqual(number_of(self.head + ['put row', 'let a is yes', 'answer is a']), 9)

    def test_names_of_lets(self):
        self.assertEqual(self.inside('put row', 'let a is yes', 'let a x is in x'), 2)
        self.assertIsNone(self.inside('put row', 'let a is yes', 'strike row', 'let a x is in x', 'bar a p'))
        # A let's name is no name of a place behind its line in this section; ahead of it and elsewhere it is.
        for line in ('let b a is yes', 'bar some a in a', 'set up a is yes', 'set even is every a yes', 'let b x is some a yes'):
            self.assertEqual(self.inside('put row', 'let a is yes', line), 2, line)
            self.assertIsNone(self.inside('put row', line, 'let a is yes'), line)
            self.assertIsNone(self.inside('put row', 'let a is yes', 'put in', line), line)
        self.assertIsNone(number_of(self.head + ['put row', 'let a is yes', 'answer a is up a', 'wish a is in a']))

    def test_bars(self):
        right = ['bar yes', 'bar row p q', 'bar some u go u p', 'bar and even odd']
        wrong = ['bar', 'bar ', 'bar is yes', 'bar x is in x', 'bar in x', 'bar reach p q u v row u v', 'bar yes yes', 'bar and no']
        for line in right:
            self.assertIsNone(self.inside('strike row', line, line), line)
        for line in wrong:
            self.assertEqual(self.inside('strike row', line), 1, line)

    def test_sets(self):
        right = ['set up x is in x', 'set go x y is yes', 'set even is odd', 'set go y x is row x y']
        wrong = ['set', 'set up', 'set up is yes', 'set up x', 'set up x y is yes', 'set go x is yes', 'set even x is yes',
                 'set row x y is yes', 'set in x is yes', 'set a is yes', 'set up x is reach x p u v yes', 'set up p is yes',
                 'set up x is up y', 'set up up is yes', 'set up x is some odd yes', 'set go x x is yes', 'set is yes']
        for line in right:
            self.assertIsNone(self.inside('put row', line), line)
            self.assertEqual(self.inside('put row', line, 'bar no', line), 3)
            self.assertIsNone(self.inside('put row', line, 'strike row', line), line)
        for line in wrong:
            self.assertEqual(self.inside('put row', line), 1, line)
        self.assertEqual(self.inside('put row', 'let a x is in x', 'set a x is in x'), 2)

    def test_lines_of_a_section_in_any_sequence(self):
        lines = ['let a x is in x', 'bar same p q', 'set up x is not up x', 'let b is no']
        for some in itertools.permutations(lines):
            self.assertIsNone(self.inside('put row', *some))

    def test_answers(self):
        right = ['answer is yes', 'answer x is in x', 'answer x y is go x y', 'answer x y z is and go x y row y z',
                 'answer u is some v row u v']
        wrong = ['answer', 'answer is', 'answer yes', 'answer x', 'answer x y z u is yes', 'answer x x is yes', 'answer p is yes',
                 'answer x is in p', 'answer x is reach x x u v yes', 'answer go is yes', 'answer is some up yes', 'answer in is yes',
                 'answer x is zz x', 'answer is is yes', 'answer x is yes ', 'answers is yes']
        for line in right:
            self.assertIsNone(number_of(self.head + [line]), line)
            self.assertEqual(number_of(self.head + [line, line]), 8)
            self.assertEqual(number_of(self.head + [line, 'put row']), 8)
        for line in wrong:
            self.assertEqual(number_of(self.head + [line]), 7, line)

    def test_wishes(self):
        right = ['wish x y is reach x y u v row u v', 'wish a b is yes', 'wish y x is row y x', 'wish x y is and in x odd',
                 'wish x y is some u not reach x u a b and row a b in b']
        wrong = ['wish', 'wish is yes', 'wish x is yes', 'wish x y z is yes', 'wish x y', 'wish x y is', 'wish x y is go x y',
                 'wish x y is up x', 'wish x y is even', 'wish x y is reach x y u v go u v', 'wish x p is yes', 'wish x up is yes',
                 'wish x y is some go yes', 'wish x y is reach x y up v yes', 'wish x x is yes', 'wish x y is in p',
                 'wish x y is reach x y u v and row u v up u', 'Wish x y is yes']
        for line in right:
            self.assertIsNone(number_of(self.head + ['answer x y is go x y', line]), line)
            self.assertEqual(number_of(self.head + ['answer x y is go x y', line, line]), 9)
            self.assertEqual(number_of(self.head + ['answer x y is go x y', line, 'answer x y is go x y']), 9)
            self.assertEqual(number_of(self.head + [line]), 7)
        for line in wrong:
            self.assertEqual(number_of(self.head + ['answer x y is go x y', line]), 8, line)

    def test_loop_questions(self):
        loop = 'reach x x u v row u v'
        for line in (f'first up x is {loop}', f'answer x is {loop}'):
            self.assertFalse(self.line(line), line)
        for line in (f'let a x is {loop}', f'set up x is {loop}', 'bar reach p p u v row u v', f'set up x is not not {loop}'):
            self.assertEqual(self.inside('put row', line), 1)
        self.assertIsNone(number_of(self.head + ['answer x is in x', f'wish x is {loop}']))

    def test_questions_that_are_too_long_or_too_deep(self):
        deep = 'some u ' * 13 + 'in u'
        self.assertIsNone(self.inside('put row', f'bar {deep}'))
        self.assertEqual(self.inside('put row', f'bar not {deep}'), 1)
        long = balanced('and', ['yes'] * 50)
        self.assertEqual(len(long.split(' ')), 99)
        self.assertIsNone(self.inside('put row', f'let a x y z is not {long}'))
        self.assertEqual(self.inside('put row', f'let a x y z is not not {long}'), 1)


class Numbers(unittest.TestCase):
    def test_what_is_no_string(self):
        for value in [value for value in odd_values() if not isinstance(value, str)] + [b'told a 0', ['told a 0']]:
            with self.assertRaises(BadKeeper) as caught:
                Keeper(value)
            self.assertIs(type(caught.exception.value), int)
            self.assertEqual(caught.exception.value, 0)

    def test_the_empty_text_and_blanks(self):
        told = [
            ('', 1), ('\n', 1), (' ', 1), ('told', 1), ('told a', 1), ('told a 0', 2), ('told a 0\n', 2), ('\ntold a 0', 1),
            ('told a 0\nanswer is yes\n', 3), ('told a 0\n\nanswer is yes', 2), ('told  a 0\nanswer is yes', 1),
            ('told a  0\nanswer is yes', 1), (' told a 0\nanswer is yes', 1), ('told a 0 \nanswer is yes', 1),
            ('told a 0\nanswer is yes ', 2), ('told a 0\nanswer  is yes', 2), ('told a 0\nanswer is  yes', 2),
            ('told a 0\nanswer is yes\n\n', 3), ('told a 0\n answer is yes', 2), ('told a 0\nanswer is yes\nwish is no\n', 4),
            ('told a 0 answer is yes', 1), ('told a 0\n\n\n', 2), ('x', 1), ('yes', 1), ('# told', 1),
        ]
        for text, number in told:
            with self.subTest(text):
                self.assertEqual(number_of([text]), number)
                self.assertEqual(plain_number(text), number)

    def test_two_hundred_lets_and_one_more(self):
        for many in (199, 200, 201, 230):
            lines = ['told a 0', 'put a'] + [f'let b{at} is yes' for at in range(many)] + ['bar no', 'answer is a']
            self.assertEqual(number_of(lines), None if many <= 200 else 203)
        lets = [f'let b{at} x is {f"b{at - 1} x" if at else "yes"}' for at in range(200)]
        lines = ['told a 0', 'put a', *lets, 'strike a', *lets]
        self.assertIsNone(number_of(lines + ['answer is a']))
        self.assertEqual(number_of(lines + ['let c is yes', 'answer is a']), 404)

    def test_a_thousand_lines_and_one_more(self):
        bars = ['bar a'] * 2000
        for many in (999, 1000, 1001, 1200):
            lines = ['told a 0', 'put a'] + bars[:many - 3] + ['answer is a']
            self.assertEqual(len(lines), many)
            self.assertEqual(number_of(lines), None if many <= 1000 else 1001)
        lines = ['told a 0', 'put a'] + bars[:997]
        self.assertEqual(number_of(lines), 1000)
        self.assertEqual(number_of(lines + ['bar a']), 1001)
        self.assertEqual(number_of(lines + ['bar a', 'answer is a']), 1001)
        self.assertEqual(number_of(lines + ['answer is a', 'wish is a']), 1001)
        self.assertEqual(number_of(['told a 0', 'put a', 'bar b'] + bars), 3)

    def test_equality(self):
        text = '\n'.join(FULL)
        self.assertEqual(Keeper(text), Keeper(text=text))
        self.assertFalse(Keeper(text) != Keeper(text))
        self.assertNotEqual(Keeper(text), Keeper('\n'.join(FULL[:-1])))
        other = text.replace('same x y', 'same y x')
        self.assertNotEqual(Keeper(text), Keeper(other))
        for value in odd_values() + [text, (text,), Keeper]:
            self.assertIs(Keeper(text) == value, False)
            self.assertIs(value == Keeper(text), False)

    def test_no_order_and_no_sums(self):
        one, other = Keeper('told a 0\nanswer is a'), Keeper('told b 0\nanswer is b')
        for call in (lambda: one < other, lambda: one >= 1, lambda: one + other, lambda: other * 2, lambda: -one):
            with self.assertRaises(TypeError):
                call()
