"""Sections 3 (g), (h) and 13: judging, beside a plain going through all STANDINGS."""

import itertools
import random
import unittest

from tests.drawn_keepers import random_keeper_text
from tests.plain_standings import PlainRoads, TooMany, fewest_parting, is_parted
from withoutloops.books import booked
from withoutloops.errors import Wide
from withoutloops.going import going_keeper
from withoutloops.judging import (
    acts, alike, judged, needless, on_road, parted, shows_alike, shows_judged, shows_on_road, shows_parted, standings,
)
from withoutloops.keepers import Keeper
from withoutloops.numbers import number_keeper
from withoutloops.webs import least_keeper, side_keeper, web_keeper

MOST = 20000

ANY = 'told in 1\nkept any 0\nput in\nset any is yes\nstrike in\nset any is no\nanswer is any\nwish is some x in x'
SOUND = ANY.replace('is no', 'is some x and in x not same x p')
LAST = 'told in 1\nkept last 1\nput in\nset last x is same x p\nanswer x is last x\nwish x is in x'


def without_line(text, at):
    lines = text.split('\n')
    return '\n'.join(lines[:at] + lines[at + 1:])


def without_wish(text):
    return '\n'.join(line for line in text.split('\n') if line.split(' ')[0] != 'wish')


class Checks(unittest.TestCase):
    def roads(self, text, n, most=120):
        """The plain roads of a keeper's text, None if there are too many."""
        try:
            return PlainRoads(text, n, most)
        except TooMany:
            return None

    def check_one(self, text, n, roads):
        """What is told of one keeper, beside its plain roads."""
        keeper = Keeper(text)
        many = len(roads.far)
        self.assertEqual(standings(keeper, n, MOST), many)
        self.assertEqual(standings(keeper, n, many), many)
        for call in (standings, acts, needless):
            self.check_wide(call, keeper, n, many)
        self.assertEqual(acts(keeper, n, many), roads.many_lots())
        if keeper.has_wish:
            self.check_judged(keeper, n, roads)
        found = []
        for name, _ in keeper.kept:
            self.check_on_road(keeper, n, name, roads)
            found += [name] if roads.is_needless(name) else []
        self.assertEqual(needless(keeper, n, many), tuple(sorted(found)))

    def check_wide(self, call, *given):
        """Most just enough, and one too few."""
        call(*given)
        if given[-1] > 1:
            with self.assertRaises(Wide) as caught:
                call(*given[:-1], given[-1] - 1)
            self.assertEqual(caught.exception.value, given[-1] - 1)

    def check_judged(self, keeper, n, roads):
        many = len(roads.far)
        self.check_wide(judged, keeper, n, many)
        told = judged(keeper, n, many)
        fewest = roads.fewest_wrong()
        self.assertTrue(shows_judged(keeper, n, many, told))
        if fewest is None:
            self.assertEqual(told, ('right', many))
            self.check_kinds(told, lambda value: shows_judged(keeper, n, many, value))
            return
        self.assertEqual((told[0], len(told[1])), ('wrong', fewest))
        behind = roads.run(told[1])
        self.assertNotEqual(roads.answers[behind], roads.wishes[behind])
        self.check_kinds(told, lambda value: shows_judged(keeper, n, many, value))

        def is_so(changes):
            end = roads.run(changes)
            return len(changes) == fewest and end is not None and roads.answers[end] != roads.wishes[end]

        self.check_shown(roads, told[1], is_so, lambda changes: shows_judged(keeper, n, many, ('wrong', changes)))

    def check_shown(self, roads, told, is_so, shows):
        """What is shown of some CHANGES that are few, and of what was told with one left out, more, or otherwise."""
        rng = random.Random(len(roads.far))
        idle = ('strike',) + roads.changes[0][1:]
        others = [told[:-1], told[1:], told + tuple(roads.changes[:1]), (idle,) + told, told[::-1]] if told else []
        for many in (0, 1, 2, 2, len(told)):
            others += [tuple(rng.choice(roads.changes) for _ in range(many)) for _ in range(3 if many else 1)]
        near = [told[:at] + (change,) + told[at + 1:] for at in range(len(told)) for change in roads.changes]
        for changes in others + rng.sample(near, min(len(near), 8)):
            self.assertIs(shows(changes), is_so(changes), changes)

    def check_kinds(self, told, shows):
        """What is equal to what was told, or near it, but of other kinds."""
        others = [list(told), told + (1,), told[:1], told[::-1], told[0], told[1], (told[0], None), (None, told[1]), None, (), 1, 'right']
        if told[0] == 'right':
            others += [('right', told[1] + 1), ('right', told[1] - 1), ('right', ()), ('wrong', ()), ('wrong', told[1]), ('right', str(told[1]))]
            others += [('right', True)] if told[1] == 1 else [('right', False)]
        else:
            others += [('wrong', list(told[1])), ('right', told[1]), ('wrong', 1), ('wrong', tuple(map(list, told[1])) or None)]
            others += [('wrong', told[1][:-1] + (told[1][-1][:2] + (tuple(map(bool, told[1][-1][2])) or (0,),),))] if told[1] else []
        for value in others:
            self.assertIs(shows(value), False, value)

    def check_on_road(self, keeper, n, name, roads):
        many = len(roads.far)
        self.check_wide(on_road, keeper, n, name, many)
        told, fewest = on_road(keeper, n, name, many), roads.fewest_on_road(name)
        self.assertTrue(shows_on_road(keeper, n, name, many, told))
        if fewest is None:
            self.assertIsNone(told)
            for value in ((), ((), ()), False, 0, (None, None), 'None'):
                self.assertIs(shows_on_road(keeper, n, name, many, value), False)
            return
        first, second = told
        self.assertEqual(len(first) + len(second), fewest)
        one, other = roads.run(first), roads.run(second)
        self.assertEqual(one[0], other[0])
        self.assertNotEqual(dict(one[1])[name], dict(other[1])[name])
        self.assertIs(shows_on_road(keeper, n, name, many, (second, first)), True)
        change = roads.changes[0]
        for value in (None, (), (first,), (first, first), (second, second), [first, second], (list(first), second), (first, list(second)),
                      told + ((),), (first + (change, change), second), (first, None), (first[1:], second[1:]),
                      (first, second[:-1] + (('put', 'none', ()),)), 1):
            self.assertIs(shows_on_road(keeper, n, name, many, value), False, value)
        rng = random.Random(many)
        for _ in range(12):
            changes = tuple(rng.choice(roads.changes) for _ in range(fewest))
            at = rng.choice([0, len(first), rng.randint(0, fewest)])
            ends = [roads.run(some) for some in (changes[:at], changes[at:])]
            is_so = None not in ends and ends[0][0] == ends[1][0] and dict(ends[0][1])[name] != dict(ends[1][1])[name]
            self.assertIs(shows_on_road(keeper, n, name, many, (changes[:at], changes[at:])), is_so, changes)

    def check_two(self, texts, n, both):
        """What parts two keepers, beside all pairs."""
        one, other = [Keeper(text) for text in texts]
        many = max(len(roads.far) for roads in both)
        self.check_wide(alike, one, other, n, many)
        told = alike(one, other, n, many)
        fewest = fewest_parting(both[0], both[1], both[0].first, both[1].first)
        self.check_told(both, (both[0].first, both[1].first), told, fewest, lambda value: shows_alike(one, other, n, many, value))

    def check_told(self, both, standing, told, fewest, shows):
        """What parts two STANDINGS, and what is shown of it."""
        self.assertIs(shows(told), True)
        for value in (1, '', 'None', [], False, 0, ((),), (None,), ('put',), {}):
            self.assertIs(shows(value), False, value)
        if fewest is None:
            self.assertIsNone(told)
        else:
            self.assertIsInstance(told, tuple)
            self.assertEqual(len(told), fewest)
            self.assertIs(shows(None), False)
            self.assertIs(shows(list(told)), False)
        self.check_shown(both[0], told or (), lambda changes: (
            len(changes) == fewest and is_parted(both[0], both[1], standing[0], standing[1], changes)
        ), shows)

    def check_parted(self, rng, text, n, roads):
        """What parts the STANDINGS behind drawn CHANGES."""
        keeper, many = Keeper(text), len(roads.far)
        for _ in range(3):
            ways = [self.way(rng, roads) for _ in range(2)]
            ends = [roads.run(way) for way in ways]
            self.check_wide(parted, keeper, n, ways[0], ways[1], many)
            told = parted(keeper, n, ways[0], ways[1], many)
            fewest = fewest_parting(roads, roads, ends[0], ends[1])
            self.check_told((roads, roads), ends, told, fewest, lambda value: shows_parted(keeper, n, ways[0], ways[1], many, value))

    def way(self, rng, roads):
        """Drawn CHANGES, none of them barred, some of them idle."""
        standing, way = roads.first, []
        for _ in range(rng.randint(0, 6)):
            change = rng.choice(roads.changes)
            if roads.leads[standing, change] is not None:
                standing = roads.leads[standing, change]
                way.append(change)
        return tuple(way)


class Drawn(Checks):
    def test_drawn_keepers(self):
        rng = random.Random(41)
        found = 0
        while found < 60:
            text, n = random_keeper_text(rng), rng.choice([1, 1, 2, 2, 3])
            roads = self.roads(text, n, 35)
            if roads is not None and len(roads.changes) < 40:
                found += 1
                self.check_one(text, n, roads)
                self.check_parted(rng, text, n, roads)

    def otherwise(self, rng, text):
        """The text with a line left out, or with one word for another one, if that is a keeper of the same told tables."""
        told = Keeper(text).told
        while True:
            at = rng.randrange(len(text.split('\n')))
            other = without_line(text, at)
            if rng.random() < 0.5:
                lines = text.split('\n')
                pair = rng.choice([('and', 'or'), ('or', 'and'), ('yes', 'no'), ('no', 'yes'), ('p', 'q'), ('x', 'y'), ('not', 'not not')])
                lines[at] = ' '.join(pair[1] if word == pair[0] else word for word in lines[at].split(' '))
                other = '\n'.join(lines)
            try:
                if Keeper(other).told == told and other != text:
                    return other
            except ValueError:
                pass

    def test_drawn_pairs(self):
        rng = random.Random(42)
        found, met = 0, []
        while found < 70:
            one, n = random_keeper_text(rng), rng.choice([1, 2, 2])
            other = self.otherwise(rng, one)
            both = [self.roads(text, n, 35) for text in (one, other)]
            if None not in both:
                found += 1
                self.check_two((one, other), n, both)
                met.append(alike(Keeper(one), Keeper(other), n, 100))
        self.assertIn(None, met)
        self.assertIn((), met)
        self.assertGreater(max(len(told or ()) for told in met), 1)


class Told(Checks):
    def test_told_keepers_are_right(self):
        for keeper, numbers in ((going_keeper(), (1, 3, 25, 543)), (web_keeper(), (1, 2, 10, 162)), (least_keeper(), (1, 2, 8, 64)),
                                (side_keeper(), (1, 2, 10, 162))):
            for n, many in enumerate(numbers, 1):
                self.assertEqual(judged(keeper, n, MOST), ('right', many))
        for n in (1, 2, 3):
            self.assertEqual(judged(number_keeper(), n, MOST)[0], 'right') if number_keeper().has_wish else None

    def test_going_and_lines_of_it_left_out(self):
        text = going_keeper().text
        self.check_one(text, 3, self.roads(text, 3))
        wrong = 0
        for at in range(len(text.split('\n'))):
            try:
                Keeper(without_line(text, at))
            except ValueError:
                continue
            for n in (1, 2):
                roads = self.roads(without_line(text, at), n, 60)
                if roads is not None:
                    self.check_one(without_line(text, at), n, roads)
                    wrong += roads.wishes[roads.first] is not None and roads.fewest_wrong() is not None
                    self.check_two((text, without_line(text, at)), n, [self.roads(text, n), roads])
        self.assertGreater(wrong, 2)

    def test_small_ones(self):
        rng = random.Random(43)
        for text in (ANY, SOUND, LAST):
            for n in (1, 2, 3):
                roads = self.roads(text, n)
                self.check_one(text, n, roads)
                self.check_parted(rng, text, n, roads)
                for other in (ANY, SOUND, LAST):
                    self.check_two((text, other), n, [roads, self.roads(other, n)])

    def test_wrong_ahead_of_all_changes(self):
        keeper = Keeper('told in 1\nanswer is yes\nwish is some x in x')
        self.assertEqual(judged(keeper, 2, 9), ('wrong', ()))
        self.assertIs(shows_judged(keeper, 2, 9, ('wrong', ())), True)
        self.assertEqual(alike(keeper, Keeper('told in 1\nanswer is no'), 2, 9), ())
        self.assertIsNone(alike(keeper, Keeper('told in 1\nkept a 0\nput in\nset a is not a\nanswer is not and a no'), 2, 9))

    def test_answers_of_unlike_heads(self):
        # None of both tells a row: the answers are the same.
        self.assertIsNone(alike(Keeper('told in 1\nanswer is no'), Keeper('told in 1\nanswer x y is no'), 2, 9))
        self.assertEqual(alike(Keeper('told in 1\nanswer is yes'), Keeper('told in 1\nanswer x is yes'), 1, 9), ())

    def test_what_is_barred_in_one_alone(self):
        one = 'told in 1\nput in\nbar some x and in x not same x p\nanswer x is in x'
        other = 'told in 1\nanswer x is in x'
        for n in (1, 2, 3):
            self.check_two((one, other), n, [self.roads(text, n) for text in (one, other)])
        told = alike(Keeper(one), Keeper(other), 2, 9)
        self.assertIn(told, ((('put', 'in', (0,)), ('put', 'in', (1,))), (('put', 'in', (1,)), ('put', 'in', (0,)))))
        # Barred in both: nothing parts them, whatever would stand behind it.
        two = one.replace('answer x is in x', 'answer x is and in x not some u and in u not same u x')
        self.assertIsNone(alike(Keeper(one), Keeper(two), 3, 9))

    def test_a_change_that_is_idle_in_one_only(self):
        keeper = Keeper('told in 1\nput in\nbar less p p\nanswer is yes')
        self.assertEqual(acts(keeper, 2, 9), 1)
        barred = Keeper('told in 1\nput in\nbar some x in x\nanswer is yes')
        there = ('put', 'in', (0,))
        # To put 0 again is idle in the one that has it, and barred in the one that has 1.
        self.assertEqual(len(parted(barred, 2, (there,), (('put', 'in', (1,)),), 9)), 1)
        self.assertEqual(acts(barred, 2, 9), 3)

    def test_the_least_sum_on_a_road(self):
        """The second way is shorter for one told STORE, the sum for another one."""
        lines = ['told in 1', 'kept two 0', 'kept a 0', 'put in', 'set two is or two some x in x',
                 'set a is and some x and in x less p x some x some y and in x and in y not same x y',
                 'strike in', 'set a is and two not some x and in x not same x p', 'answer is a']
        text = '\n'.join(lines)
        self.check_one(text, 3, self.roads(text, 3))
        self.assertEqual(sorted(map(len, on_road(Keeper(text), 3, 'a', 99))), [0, 4])
        barred = text.replace('strike in', 'bar some x and in x less x p\nstrike in\nbar a')
        self.check_one(barred, 3, self.roads(barred, 3))

    def test_far_partings(self):
        """A keeper that counts: two STANDINGS are parted only behind many CHANGES."""
        lines = ['told in 0'] + [f'kept k{at} 0' for at in range(6)]
        for word in ('put', 'strike'):
            lines += [f'{word} in'] + [f'set k{at} is ' + self.carry(at) for at in range(6)]
        keeper = Keeper('\n'.join(lines + ['answer is and k0 and k1 and k2 and k3 and k4 k5']))
        self.assertEqual([standings(keeper, 1, 64), acts(keeper, 1, 64)], [64, 64])
        put, strike = ('put', 'in', ()), ('strike', 'in', ())
        self.assertEqual(len(parted(keeper, 1, (), (put, strike), 64)), 61)
        self.assertEqual(len(alike(keeper, Keeper('told in 0\nanswer is no'), 1, 64)), 63)

    def carry(self, at):
        lower = [f'k{one}' for one in range(at)]
        all_lower = ' '.join(['and'] * (at - 1) + lower) if lower else 'yes'
        return f'or and k{at} not {all_lower} and not k{at} {all_lower}'

    def test_lines_of_the_web_left_out(self):
        text = web_keeper().text
        for at in range(len(text.split('\n'))):
            try:
                keeper = Keeper(without_line(text, at))
            except ValueError:
                continue
            roads = self.roads(keeper.text, 2, 60)
            if roads is not None:
                self.check_one(keeper.text, 2, roads)

    def test_most_twenty_thousand(self):
        self.assertEqual(standings(going_keeper(), 2, 20000), 3)
        lines = ['told row 2', 'kept was 2', 'put row', 'set was x y is row x y', 'strike row', 'set was x y is row x y']
        keeper = Keeper('\n'.join(lines + ['answer is no']))
        with self.assertRaises(Wide):
            standings(keeper, 4, 300)


class Otherwise(unittest.TestCase):
    """The same with the places called otherwise, in keepers without less."""

    def called(self, changes, way):
        return tuple((word, name, tuple(way[place] for place in row)) for word, name, row in changes)

    def test_what_is_told_with_other_places(self):
        rng = random.Random(44)
        found = 0
        while found < 60:
            text = random_keeper_text(rng)
            keeper = Keeper(text)
            if 'less' in text.split() or not keeper.has_wish:
                continue
            try:
                told = judged(keeper, 2, 60)
            except Wide:
                continue
            found += 1
            for way in ((1, 0), (0, 1)):
                if told[0] == 'wrong':
                    self.assertIs(shows_judged(keeper, 2, 60, ('wrong', self.called(told[1], way))), True)
                for name, _ in keeper.kept:
                    two = on_road(keeper, 2, name, 60)
                    if two is not None:
                        self.assertIs(shows_on_road(keeper, 2, name, 60, tuple(self.called(some, way) for some in two)), True)
                self.check_parted(rng, keeper, way)

    def test_what_parts_two_with_other_places(self):
        rng = random.Random(45)
        found = []
        while len(found) < 30:
            one = Keeper(random_keeper_text(rng))
            other = Keeper(without_wish(one.text).rsplit('answer', 1)[0] + 'answer is no')
            if 'less' in one.text.split():
                continue
            try:
                told = alike(one, other, 2, 60)
            except Wide:
                continue
            found.append(told)
            if told is not None:
                self.assertIs(shows_alike(one, other, 2, 60, self.called(told, (1, 0))), True)
        self.assertGreater(len(set(found)), 2)

    def check_parted(self, rng, keeper, way):
        changes = []
        for name, many in keeper.told:
            changes.append(('put', name, (rng.randrange(2),) * many))
        try:
            booked(keeper, 2, tuple(changes))
        except ValueError:
            return
        told = parted(keeper, 2, (), tuple(changes), 60)
        other = parted(keeper, 2, (), self.called(changes, way), 60)
        self.assertEqual(told is None, other is None)
        if told is not None:
            self.assertEqual(len(told), len(other))
            self.assertIs(shows_parted(keeper, 2, (), self.called(changes, way), 60, self.called(told, way)), True)
