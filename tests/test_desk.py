"""Section 15: a desk, each form of line with one thing otherwise, behind drawn deeds."""

import random
import unittest

from tests.drawn_keepers import random_keeper_text
from tests.plain_benches import PlainBench
from tests.plain_keepers import random_change
from tests.refusing import Refusals, odd_objects
from withoutloops.benches import Bench
from withoutloops.desk import Desk
from withoutloops.errors import BadRow, BadTable, BadTask, Barred, LoopError, NothingToRedo, NothingToUndo, NoWish
from withoutloops.journals import journal
from withoutloops.keepers import Keeper

TEXT = [
    'told row 2', 'told in 1', 'told flag 0', 'kept mid 3', 'kept go 2', 'put row', 'bar row q p', 'set mid x y z is and row x y same y z',
    'answer x y is row x y', 'wish x y is or row x y and in x in y', 'size 4', 'deeds', 'put row 2 3', 'put row 0 1', 'put in 1', 'put flag',
]


def desk():
    return Desk('\n'.join(TEXT))


class Lines(Refusals):
    def test_deeds(self):
        one = desk()
        lines = [('put row 0 1', 'idle'), ('strike row 0 1', 'done'), ('strike row 0 1', 'idle'), ('put row 1 0', 'done'),
                 ('strike flag', 'done'), ('strike flag', 'idle'), ('put flag', 'done'), ('put in 3', 'done')]
        for at, (line, answer) in enumerate(lines):
            self.assertEqual(one.say(line), answer)
            self.assertEqual(one.bench.deeds, 5 + at)
        self.assertEqual(journal(one.bench).split('\n')[-8:], [line for line, _ in lines])

    def test_undo_and_redo(self):
        one = desk()
        self.assertEqual([one.say(line) for line in ('undo', 'undo', 'table flag', 'redo', 'table in', 'redo', 'table flag')],
                         ['done', 'done', 'none', 'done', '1', 'done', 'yes'])
        self.check(NothingToRedo, None, one.say, 'redo')
        for _ in range(4):
            self.assertEqual(one.say('undo'), 'done')
        self.check(NothingToUndo, None, one.say, 'undo')

    def test_tables(self):
        one = desk()
        self.assertEqual([one.say(f'table {name}') for name in ('row', 'in', 'flag', 'mid', 'go')],
                         ['0 1 ; 2 3', '1', 'yes', '2 3 3', 'none'])
        one.say('put in 3')
        one.say('put in 0')
        self.assertEqual(one.say('table in'), '0 ; 1 ; 3')
        for name in ('none', 'answer', 'let', '0', 'Row', 'abcdefgh', 'x y'.split(' ')[0], ';'):
            self.check(BadTable, name, one.say, f'table {name}')

    def test_answers_and_wishes(self):
        one = desk()
        self.assertEqual([one.say(line) for line in ('answer', 'wish', 'right')], ['0 1 ; 2 3', '0 1 ; 1 1 ; 2 3', 'no'])
        one.say('strike in 1')
        self.assertEqual([one.say(line) for line in ('answer', 'wish', 'right')], ['0 1 ; 2 3', '0 1 ; 2 3', 'yes'])
        for _ in range(5):
            one.say('undo')
        self.assertEqual([one.say(line) for line in ('answer', 'wish', 'right')], ['none', 'none', 'yes'])

    def test_without_places_and_without_a_wish(self):
        one = Desk('told in 1\nanswer is some x in x\nsize 1\ndeeds')
        self.assertEqual([one.say('answer'), one.say('put in 0'), one.say('answer')], ['none', 'done', 'yes'])
        for line in ('wish', 'right'):
            self.check(NoWish, None, one.say, line)

    def test_what_is_no_task(self):
        one = desk()
        wrong = [
            '', ' ', 'Undo', 'undo ', ' undo', 'undo 1', 'redo redo', 'table', 'table ', 'table row in', 'table  row', ' table row', 'tables row',
            'answer x', 'answer ', 'wishes', 'wish ', 'right now', 'Right', 'put', 'put ', 'strike', 'strike ', 'put  row 0 1', 'put row 0  1',
            'put row 0 1 ', ' put row 0 1', 'put row 0 +1', 'put row 0 01', 'put row 0 -0', 'put row 0 1_0', 'put row a', 'put row 0 1.0',
            'Put row 0 1', 'let row 0 1', 'deeds', 'size 3', 'undo\n', '\nundo', 'undo\nredo', 'put row 0 1\n', 'table row\n', 'keep', 'copy',
            'told in 1', 'yes', 'done', 'journal', 'put\trow 0 1', 'table\trow',
        ]
        ahead = journal(one.bench)
        for line in wrong + odd_objects() + [b'undo', ['undo'], ('undo',)]:
            self.check(BadTask, line, one.say, line)
        self.assertEqual(journal(one.bench), ahead)

    def test_what_the_bench_raises(self):
        one = desk()
        ahead = journal(one.bench)
        for line in ('put none 0', 'strike go 0 1', 'put put', 'put 0 1', 'strike mid 0 0 0', 'put NAME'):
            self.check(BadTable, line.split(' ')[1], one.say, line)
        for line, row in (('put row 0', (0,)), ('put row', ()), ('put row 0 4', (0, 4)), ('strike in -1', (-1,)), ('put flag 0', (0,)),
                          ('put in 0 0', (0, 0)), ('put in 900000000', (900000000,))):
            self.check(BadRow, row, one.say, line)
        self.check(Barred, 7, one.say, 'put row 3 2')
        self.assertEqual(journal(one.bench), ahead)
        one.say(line='undo')
        self.assertEqual(one.bench.deeds, 3)

    def test_the_very_bench(self):
        one = desk()
        bench = one.bench
        self.assertIsInstance(bench, Bench)
        bench.undo()
        self.assertEqual(one.say('table flag'), 'none')
        one.say('redo')
        self.assertEqual(bench.deeds, 4)
        self.assertIs(one.bench, bench)
        told = bench.tried(lambda given: [one.say('strike flag'), one.say('table flag'), given is one.bench])
        self.assertEqual(told, ['done', 'none', True])
        self.assertEqual(one.say('table flag'), 'yes')
        self.assertIsNot(Desk(text='\n'.join(TEXT)).bench, bench)
        self.assertEqual(Desk('\n'.join(TEXT)).bench, bench)


def spelt(rows):
    return ' ; '.join(' '.join(map(str, row)) or 'yes' for row in rows) or 'none'


class Drawn(unittest.TestCase):
    def test_drawn_deeds(self):
        rng = random.Random(81)
        for _ in range(40):
            text, n = random_keeper_text(rng), rng.randint(1, 3)
            one, plain = Desk(f'{text}\nsize {n}\ndeeds'), PlainBench(text, n)
            for _ in range(8):
                self.do(rng, one, plain)
                self.check_same(one, plain)

    def do(self, rng, one, plain):
        word = rng.choice(['put', 'put', 'strike', 'undo', 'redo'])
        if word in ('put', 'strike'):
            change = random_change(rng, Keeper(plain.text).told, plain.n)
            told = {True: 'done', False: 'idle', None: None}[plain.do(change)]
            line = ' '.join([change[0], change[1], *map(str, change[2])])
        else:
            line, told = word, plain.undo() if word == 'undo' else plain.redo()
        try:
            self.assertEqual(one.say(line), told)
        except LoopError:
            self.assertIsNone(told)

    def check_same(self, one, plain):
        book = plain.book()
        for name, rows in book.rows.items():
            self.assertEqual(one.say(f'table {name}'), spelt(sorted(rows)))
        self.assertEqual(one.say('answer'), spelt(book.told_by('answer')))
        if one.bench.keeper.has_wish:
            self.assertEqual(one.say('wish'), spelt(book.told_by('wish')))
            self.assertEqual(one.say('right'), 'yes' if book.told_by('wish') == book.told_by('answer') else 'no')
        self.assertEqual(journal(one.bench), plain.journal())
