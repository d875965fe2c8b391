"""Sections 8 to 11: the texts of the told keepers, beside the lines of the document."""

import itertools
import unittest

from tests.plain_keepers import plain_number
from tests.plain_machines import small_machines
from tests.plain_webs import lines_of
from withoutloops.errors import BadMachine, Wide
from withoutloops.going import going_keeper
from withoutloops.keepers import Keeper
from withoutloops.numbers import number_keeper
from withoutloops.webs import least_keeper, side_keeper, web_keeper
from withoutloops.words import word_keeper


def starts(lines, start):
    """The number of the line that starts so."""
    found = [at for at, line in enumerate(lines) if line.startswith(start)]
    assert len(found) == 1, found
    return found[0]


def side_lines():
    """The lines of WEB but the last two, and more."""
    lines, more = lines_of('web')[:-2], lines_of('sides_more')
    lines.insert(starts(lines, 'kept mid 3') + 1, 'kept odd 2')
    lines.insert(starts(lines, 'strike tie'), more[0])
    return lines + more[1:]


def least_lines():
    """The lines of WEB, but others behind `bar` up to the end of put's section, and others at its end."""
    lines, more = lines_of('web'), lines_of('least_more')
    return lines[:starts(lines, 'bar ') + 1] + more[:-2] + lines[starts(lines, 'strike tie'):-2] + more[-2:]


def sum_of(terms):
    return ' '.join(['or'] * (len(terms) - 1) + terms)


def word_lines(machine):
    """The lines of a word keeper by the forms of section 11."""
    states, start, ends, signs, steps = machine
    every = range(states)
    lines = [f'told {sign} 1' for sign in signs]
    for one in every:
        for other in every:
            lines.append(f'kept m{one}{other} 2')
    for kind in 'ft':
        lines += [f'kept {kind}{one} 1' for one in every]
    lines.append('kept acc 0')
    lines += [f'first m{one}{one} x y is less x y' for one in every]
    lines.append(f'first f{start} x is yes')
    lines += [f'first t{one} x is yes' for one in ends]
    lines += ['first acc is yes'] * (start in ends)
    for word in ('put', 'strike'):
        for sign in signs:
            lines.append(f'{word} {sign}')
            if word == 'put' and len(signs) > 1:
                lines.append('bar ' + sum_of([f'{other} p' for other in signs if other != sign]))

            def to(state):
                return steps[state][signs.index(sign)] if word == 'put' else state

            for one in every:
                for other in every:
                    held = sum_of([f'and m{one}{u} x p m{to(u)}{other} p y' for u in every])
                    lines.append(f'set m{one}{other} x y is or and m{one}{other} x y not and less x p less p y '
                                 f'and and less x p less p y {held}')
            for one in every:
                held = sum_of([f'and f{u} p m{to(u)}{one} p x' for u in every])
                lines.append(f'set f{one} x is or and f{one} x not less p x and less p x {held}')
            for one in every:
                held = sum_of([f'and m{one}{u} x p t{to(u)} p' for u in every])
                lines.append(f'set t{one} x is or and t{one} x not less x p and less x p {held}')
            lines.append('set acc is ' + sum_of([f'and f{u} p t{to(u)} p' for u in every]))
    return lines + ['answer is acc']


class Texts(unittest.TestCase):
    def check(self, keeper, lines):
        self.assertIsInstance(keeper, Keeper)
        self.assertEqual(keeper.text.split('\n'), lines)
        self.assertEqual(keeper, Keeper('\n'.join(lines)))
        self.assertIsNone(plain_number('\n'.join(lines)))

    def test_going(self):
        self.check(going_keeper(), lines_of('going'))
        self.assertEqual(going_keeper(), going_keeper())
        keeper = going_keeper()
        self.assertEqual((keeper.told, keeper.kept, keeper.has_wish), ((('row', 2),), (('go', 2),), True))

    def test_web(self):
        self.check(web_keeper(), lines_of('web'))
        keeper = web_keeper()
        self.assertEqual((keeper.told, keeper.kept), ((('tie', 2),), (('tree', 2), ('mid', 3))))

    def test_sides(self):
        lines = side_lines()
        self.check(side_keeper(), lines)
        self.assertEqual(len(lines), len(lines_of('web')) + 3)
        self.assertEqual(lines[3], 'kept odd 2')
        self.assertTrue(lines[10].startswith('set odd') and lines[17].startswith('set odd'))
        self.assertEqual((lines[11], lines[18][:6], lines[19][:4]), ('strike tie', 'answer', 'wish'))

    def test_least(self):
        lines = least_lines()
        self.check(least_keeper(), lines)
        self.assertEqual([line.split(' ')[1] for line in lines[5:13]], ['not', 'far', 'top', 'out', 'in', 'cut', 'tree', 'mid'])
        self.assertEqual((lines[13], len(lines)), ('strike tie', 21))

    def test_numbers(self):
        self.check(number_keeper(), lines_of('numbers'))
        self.assertIs(number_keeper().has_wish, False)

    def test_words(self):
        met = 0
        for states, signs in itertools.product((1, 2, 3), (('a',), ('b', 'a'), ('z', 'm', 't'), ('f', 'c'), ('k', 'l', 'd'))):
            for machine in small_machines(states, signs):
                met += 1
                self.check(word_keeper(machine), word_lines(machine))
        self.assertEqual(met, 5 * (2 + 4 + 8))

    def test_words_told_one_by_one(self):
        lines = word_keeper((1, 0, (), ('c',), ((0,),))).text.split('\n')
        self.assertEqual(lines, [
            'told c 1', 'kept m00 2', 'kept f0 1', 'kept t0 1', 'kept acc 0', 'first m00 x y is less x y', 'first f0 x is yes',
            'put c',
            'set m00 x y is or and m00 x y not and less x p less p y and and less x p less p y and m00 x p m00 p y',
            'set f0 x is or and f0 x not less p x and less p x and f0 p m00 p x',
            'set t0 x is or and t0 x not less x p and less x p and m00 x p t0 p', 'set acc is and f0 p t0 p',
            'strike c',
            'set m00 x y is or and m00 x y not and less x p less p y and and less x p less p y and m00 x p m00 p y',
            'set f0 x is or and f0 x not less p x and less p x and f0 p m00 p x',
            'set t0 x is or and t0 x not less x p and less x p and m00 x p t0 p', 'set acc is and f0 p t0 p',
            'answer is acc',
        ])
        lines = word_keeper((2, 1, (0, 1), ('a', 'b', 'c'), ((0, 1, 0), (1, 1, 0)))).text.split('\n')
        self.assertEqual(lines[:12], [
            'told a 1', 'told b 1', 'told c 1', 'kept m00 2', 'kept m01 2', 'kept m10 2', 'kept m11 2', 'kept f0 1', 'kept f1 1',
            'kept t0 1', 'kept t1 1', 'kept acc 0',
        ])
        self.assertEqual(lines[12:18], [
            'first m00 x y is less x y', 'first m11 x y is less x y', 'first f1 x is yes', 'first t0 x is yes',
            'first t1 x is yes', 'first acc is yes',
        ])
        self.assertEqual([line for line in lines if line.split(' ')[0] in ('put', 'strike', 'bar')], [
            'put a', 'bar or b p c p', 'put b', 'bar or a p c p', 'put c', 'bar or a p b p', 'strike a', 'strike b', 'strike c',
        ])
        self.assertIn('set t1 x is or and t1 x not less x p and less x p or and m10 x p t1 p and m11 x p t1 p', lines)
        self.assertIn('set acc is or and f0 p t0 p and f1 p t0 p', lines)

    def test_words_of_more_states(self):
        for states in (4, 5, 64):
            with self.assertRaises(Wide) as caught:
                word_keeper((states, 0, (), ('a',), ((0,),) * states))
            self.assertEqual((type(caught.exception.value), caught.exception.value), (int, 3))
        with self.assertRaises(BadMachine):
            word_keeper((65, 0, (), ('a',), ((0,),) * 65))
