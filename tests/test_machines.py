"""Section 11: machines made of machines, beside reading all words up to some length."""

import itertools
import random
import unittest

from tests.plain_machines import BAD_MACHINES, EVEN, FOUR, THREE, plain_reads, state_behind
from tests.refusing import odd_objects, refused
from withoutloops.errors import BadMachine, BadPair, Wide
from withoutloops.words import both, either, least, other, reads, turned

ENDS = (2, 0, (1,), ('a', 'b'), ((0, 1), (0, 1)))


def random_machine(rng, states, signs):
    ends = tuple(state for state in range(states) if rng.random() < 0.5)
    steps = tuple(tuple(rng.randrange(states) for _ in signs) for _ in range(states))
    return states, rng.randrange(states), ends, signs, steps


def words_up_to(signs, most):
    return [word for many in range(most + 1) for word in itertools.product(signs, repeat=many)]


def ring(states, ends, sign='a'):
    return states, 0, tuple(ends), (sign,), tuple(((state + 1) % states,) for state in range(states))


def is_numbered(machine):
    """Whether states are numbered as they are come to, none left that is not."""
    states, start, ends, signs, steps = machine
    met = [0]
    for state in met:
        for lead in steps[state]:
            if lead not in met:
                met.append(lead)
    return start == 0 and met == list(range(states))


def kinds(machine):
    """How many states come to differ by some word: by all words that are short enough."""
    states, start, ends, signs, _ = machine
    words = words_up_to(signs, states)
    met = [start]
    for state in met:
        met += [lead for lead in machine[4][state] if lead not in met]
    return len({tuple(state_behind(machine, state, word) in ends for word in words) for state in set(met)})


class Made(unittest.TestCase):
    def check(self, told, signs, takes, most=6):
        """A MACHINE that takes just the words that are told."""
        self.assertIs(type(told), tuple)
        self.assertEqual(told[3], signs)
        self.assertFalse(refused(reads, told, ()))
        for word in words_up_to(signs, most if len(signs) < 3 else 4):
            self.assertIs(reads(told, word), takes(word), (told, word))

    def machines(self, seed, times, most_states=5):
        rng = random.Random(seed)
        for _ in range(times):
            signs = rng.choice([('a',), ('b', 'a'), ('a', 'b'), ('c', 'a', 'z')])
            yield random_machine(rng, rng.randint(1, most_states), signs), random_machine(rng, rng.randint(1, most_states), signs)

    def test_both_and_either(self):
        for one, two in self.machines(121, 120):
            told = both(one, two)
            self.check(told, one[3], lambda word: plain_reads(one, word) and plain_reads(two, word))
            self.assertTrue(is_numbered(told))
            told = either(one, two)
            self.check(told, one[3], lambda word: plain_reads(one, word) or plain_reads(two, word))
            self.assertTrue(is_numbered(told))
            self.assertEqual(told[4], both(one, two)[4])

    def test_other(self):
        for one, _ in self.machines(122, 60):
            told = other(one)
            self.check(told, one[3], lambda word: not plain_reads(one, word))
            self.assertEqual((told[0], told[1], told[3], told[4]), (one[0], one[1], one[3], one[4]))
            self.assertEqual((sorted(told[2] + one[2]), list(told[2])), (list(range(one[0])), sorted(told[2])))
            self.assertEqual(other(told), one)

    def test_turned(self):
        for one, _ in self.machines(123, 120, 4):
            told = turned(one)
            self.check(told, one[3], lambda word: plain_reads(one, word[::-1]))
            self.assertTrue(is_numbered(told))

    def test_the_states_of_turned_are_lots(self):
        for one, _ in self.machines(124, 80, 4):
            lots = [one[2]]
            for lot in lots:
                for sign in range(len(one[3])):
                    fresh = tuple(state for state in range(one[0]) if one[4][state][sign] in lot)
                    if fresh not in lots:
                        lots.append(fresh)
            told = turned(one)
            self.assertEqual(told[0], len(lots))
            self.assertEqual(told[2], tuple(at for at, lot in enumerate(lots) if one[1] in lot))

    def test_least(self):
        for one, _ in self.machines(125, 150, 5):
            told = least(one)
            self.check(told, one[3], lambda word: plain_reads(one, word))
            self.assertTrue(is_numbered(told))
            self.assertEqual(told[0], kinds(one), one)
            self.assertEqual(least(told), told)

    def test_least_of_machines_that_take_the_same_words(self):
        for one, two in self.machines(126, 60, 4):
            self.assertEqual(least(turned(turned(one))), least(one))
            self.assertEqual(least(both(one, two)), least(both(two, one)))
            self.assertEqual(least(other(both(one, two))), least(either(other(one), other(two))))
            self.assertEqual(least(either(one, one)), least(one))
            # Turned twice, of what is come to, is the least by itself.
            self.assertEqual(turned(turned(one)), least(one))

    def test_told_ones(self):
        self.assertEqual(both(EVEN, ENDS), (4, 0, (2,), ('a', 'b'), ((1, 2), (0, 3), (1, 2), (0, 3))))
        self.assertEqual(either(EVEN, ENDS), (4, 0, (0, 2, 3), ('a', 'b'), ((1, 2), (0, 3), (1, 2), (0, 3))))
        self.assertEqual(turned(ENDS), (3, 0, (2,), ('a', 'b'), ((1, 2), (1, 1), (2, 2))))
        self.assertEqual(other(EVEN), (2, 0, (1,), ('a', 'b'), EVEN[4]))
        self.assertEqual(other((2, 1, (), ('a',), ((0,), (1,)))), (2, 1, (0, 1), ('a',), ((0,), (1,))))
        self.assertEqual(least((3, 2, (0, 1, 2), ('a', 'b'), ((1, 2), (0, 2), (2, 1)))), (1, 0, (0,), ('a', 'b'), ((0, 0),)))
        self.assertEqual(least((2, 1, (0,), ('a',), ((1,), (0,)))), (2, 0, (1,), ('a',), ((1,), (0,))))
        self.assertEqual(turned((2, 0, (), ('a',), ((1,), (0,)))), (1, 0, (), ('a',), ((0,),)))

    def test_states_not_come_to_are_left_out(self):
        one = (4, 2, (0, 2), ('a', 'b'), ((0, 1), (1, 0), (2, 2), (3, 0)))
        self.assertEqual(both(one, one), (1, 0, (0,), ('a', 'b'), ((0, 0),)))
        self.assertEqual(least(one), (1, 0, (0,), ('a', 'b'), ((0, 0),)))
        self.assertEqual(other(one)[0], 4)


class Wide64(unittest.TestCase):
    def test_sixty_four_states(self):
        one, two = ring(8, [0]), ring(9, [0])
        for make in (both, either):
            self.assertEqual(make(ring(7, [0]), two)[0], 63)
            self.assertEqual(make(one, ring(64, [1]))[0], 64)
            self.assertEqual(make(ring(64, [1]), ring(64, [2]))[0], 64)
            self.assertEqual(refused(make, one, two), (Wide, 64))
            self.assertEqual(refused(make, ring(5, []), ring(13, [])), (Wide, 64))
        self.assertEqual(both(ring(64, [1]), ring(64, [1])), ring(64, [1]))
        self.assertEqual(least(ring(64, [7])), ring(64, [7]))
        self.assertEqual(least(ring(64, range(0, 64, 2))), ring(2, [0]))
        self.assertEqual(least(ring(64, range(3, 64, 4))), ring(4, [3]))
        self.assertEqual(turned(ring(64, [0])), ring(64, [0]))
        self.assertEqual(other(ring(64, range(63))), ring(64, [63]))

    def test_just_sixty_four_and_one_more(self):
        # One sign: both go on together until their rings close, ways ahead of the rings put in between.
        for ahead, states in ((1, 64), (2, 65)):
            steps = tuple((state + 1,) for state in range(ahead)) + tuple((ahead + (at + 1) % 9,) for at in range(9))
            one, two = (ahead + 9, 0, (0,), ('a',), steps), ring(7, [0])
            if states > 64:
                self.assertEqual(refused(both, one, two), (Wide, 64))
                self.assertEqual(refused(either, one, two), (Wide, 64))
            else:
                self.assertEqual((both(one, two)[0], either(one, two)[0]), (64, 64))

    def test_turned_comes_to_more(self):
        # Words whose sign at a told place from the end is a: turned from machines that remember few signs.
        def at_place(many):
            steps = [(at + 1, at + 1) for at in range(many - 1)] + [(many, many + 1), (many, many), (many + 1, many + 1)]
            return many + 2, 0, (many,), ('a', 'b'), tuple(steps)

        for many in (1, 2, 3, 4, 5, 6):
            one = at_place(many)
            self.assertEqual(turned(one)[0], 2 ** many)
            self.assertEqual(least(turned(turned(one))), least(one))
        self.assertEqual(refused(turned, at_place(7)), (Wide, 64))

    def test_large_random_machines(self):
        rng = random.Random(127)
        for states in (20, 40, 64):
            one = random_machine(rng, states, ('a', 'b'))
            told = least(one)
            self.assertTrue(is_numbered(told))
            for _ in range(300):
                word = tuple(rng.choice('ab') for _ in range(rng.randint(0, 40)))
                self.assertIs(reads(told, word), plain_reads(one, word))
                self.assertIs(reads(other(one), word), not plain_reads(one, word))


class Refusals(unittest.TestCase):
    def test_what_is_no_machine(self):
        for machine in BAD_MACHINES + odd_objects():
            for given in ((both, machine, None), (both, EVEN, machine), (either, machine, 0), (either, EVEN, machine),
                          (other, machine), (turned, machine), (least, machine)):
                told = refused(*given)
                self.assertIsNotNone(told, given)
                self.assertIs(told[0], BadMachine, given)
                self.assertIs(told[1], machine, given)

    def test_unlike_signs(self):
        for one, two in ((EVEN, FOUR), (FOUR, EVEN), (EVEN, THREE), (EVEN, (2, 0, (0,), ('b', 'a'), EVEN[4])), (FOUR, ring(4, [1], 'b'))):
            for make in (both, either):
                told = refused(make, one, two)
                self.assertEqual(told, (BadPair, (one, two)))
                self.assertIs(type(told[1]), tuple)

    def test_the_first_that_is_listed(self):
        for make in (both, either):
            self.assertEqual(refused(make, 'one', 'other'), (BadMachine, 'one'))
            self.assertEqual(refused(make, EVEN, 'other'), (BadMachine, 'other'))
            self.assertEqual(refused(make, ring(64, [0]), ring(63, [0], 'b'))[0], BadPair)
            self.assertEqual(refused(make, ring(64, [0]), ring(63, [0])), (Wide, 64))

    def test_arguments_by_name(self):
        self.assertEqual(both(other=ENDS, one=EVEN), both(EVEN, ENDS))
        self.assertEqual(either(other=ENDS, one=EVEN), either(EVEN, ENDS))
        self.assertEqual((other(machine=EVEN), turned(machine=EVEN), least(machine=EVEN)), (other(EVEN), turned(EVEN), least(EVEN)))
