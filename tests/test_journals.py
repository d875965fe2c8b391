"""Section 15: journals, their lines otherwise, and what is refused of benches and journals."""

import random
import unittest

from tests.drawn_keepers import random_keeper_text
from tests.plain_keepers import PlainBook, plain_number, random_change
from tests.refusing import Refusals, odd_objects, refused
from withoutloops.benches import Bench
from withoutloops.desk import Desk
from withoutloops.errors import BadJournal, BadKeeper, BadRow, BadSize, BadTable, Barred
from withoutloops.going import going_keeper
from withoutloops.journals import journal, read_journal

TEXT = ['told row 2', 'told in 1', 'told flag 0', 'kept go 2', 'put row', 'bar row q p', 'set go x y is row x y', 'answer x is in x']
DEEDS = ['put row 0 1', 'put row 0 1', 'strike in 2', 'put flag', 'put in 0', 'strike flag']
LINES = TEXT + ['size 3', 'deeds'] + DEEDS
SIZE, BEGIN = len(TEXT) + 1, len(TEXT) + 2

# Words that are no integers as Python writes them.
NO_INTEGERS = ['+1', '01', '-0', '1_0', '', ' ', '00', '-01', '--1', '1.0', '0x1', 'one', '1e0', '-', 'True', '1-', '0_0', '_1', '1,']


def told_number(text):
    """The number that BadJournal tells, None if the text is a journal."""
    told = refused(read_journal, text)
    if told is None:
        return None
    assert told[0] is BadJournal
    return told[1]


def is_plain_integer(word):
    try:
        return str(int(word)) == word
    except ValueError:
        return False


def plain_told(text):
    """The same, read plainly."""
    if not isinstance(text, str):
        return 0
    lines = text.split('\n')
    if 'deeds' not in lines:
        return len(lines) + 1
    ahead, deeds = lines[:lines.index('deeds')], lines[lines.index('deeds') + 1:]
    if len(ahead) < 2:
        return len(ahead) + 1
    keeper = '\n'.join(ahead[:-1])
    if plain_number(keeper) is not None:
        return plain_number(keeper)
    words = ahead[-1].split(' ')
    if len(words) != 2 or words[0] != 'size' or words[1] not in ('1', '2', '3', '4', '5'):
        return len(ahead)
    book = PlainBook(keeper, int(words[1]))
    for number, line in enumerate(deeds, len(ahead) + 2):
        word, *more = line.split(' ')
        if word not in ('put', 'strike') or not more or more[0] not in book.told or not all(map(is_plain_integer, more[1:])):
            return number
        row = tuple(map(int, more[1:]))
        if len(row) != book.told[more[0]] or not all(0 <= place < book.n for place in row):
            return number
        if not isinstance(book.do((word, more[0], row)), bool):
            return number
    return None


class Written(unittest.TestCase):
    def test_lines(self):
        bench = Bench('\n'.join(TEXT), 3)
        self.assertEqual(journal(bench), '\n'.join(TEXT + ['size 3', 'deeds']))
        bench.put('row', (0, 1))
        bench.put('row', (0, 1))
        bench.strike('in', (2,))
        bench.put('flag', ())
        bench.put('in', (0,))
        bench.strike('flag', ())
        self.assertEqual(journal(bench), '\n'.join(LINES))
        self.assertEqual(journal(bench=bench), journal(bench.copy()))

    def test_read(self):
        bench = read_journal('\n'.join(LINES))
        self.assertIsInstance(bench, Bench)
        self.assertEqual(journal(bench), '\n'.join(LINES))
        self.assertEqual([bench.n, bench.deeds, len(bench), bench.keeper.text], [3, 6, 6, '\n'.join(TEXT)])
        self.assertEqual(read_journal(text='\n'.join(LINES)), bench)
        for _ in range(6):
            bench.undo()
        self.assertEqual(bench, read_journal('\n'.join(TEXT + ['size 3', 'deeds'])))

    def test_behind_undo_and_trials(self):
        bench = read_journal('\n'.join(LINES))
        bench.undo()
        bench.undo()
        bench.redo()
        bench.tried(lambda one: one.put('in', (1,)))
        bench.tried(lambda one: (one.undo(), one.put('in', (2,))), keep=True)
        self.assertEqual(journal(bench), '\n'.join(LINES[:-2] + ['put in 2']))
        self.assertEqual(read_journal(journal(bench)), bench)

    def test_within_a_trial(self):
        bench = read_journal('\n'.join(LINES))
        told = bench.tried(lambda one: (one.put('in', (1,)), journal(one), journal(one.copy())))
        self.assertEqual(told[1:], ('\n'.join(LINES + ['put in 1']),) * 2)
        self.assertEqual(journal(bench), '\n'.join(LINES))

    def test_many_deeds(self):
        bench = Bench(going_keeper().text, 5)
        rng = random.Random(71)
        for _ in range(1500):
            word, _, row = random_change(rng, (('row', 2),), 5)
            refused(bench.put if word == 'put' else bench.strike, 'row', row)
        self.assertGreater(bench.deeds, 900)
        again = read_journal(journal(bench))
        self.assertEqual(again, bench)
        self.assertEqual(again.book_now().kept, bench.book_now().kept)


class Refused(Refusals):
    def check_told(self, lines, number):
        text = '\n'.join(lines)
        self.assertEqual(told_number(text), number, text)
        self.assertEqual(plain_told(text), number, text)
        if number is not None:
            self.check(BadJournal, number, Desk, text)

    def test_what_is_no_string(self):
        for value in odd_objects() + [LINES, tuple(LINES), '\n'.join(LINES).encode()]:
            if not isinstance(value, str):
                self.check(BadJournal, 0, read_journal, value)
                self.check(BadJournal, 0, Desk, value)

    def test_without_deeds(self):
        self.check_told([''], 2)
        self.check_told(['deed'], 2)
        self.check_told(LINES[:SIZE], SIZE + 1)
        self.check_told(['', ''], 3)
        # Whatever else is wrong.
        for lines in (LINES[:SIZE] + LINES[BEGIN:], ['x'] * 4, ['size 9', 'Deeds'], ['told', 'deeds ', ' deeds', 'deeds deeds']):
            self.check_told(lines, len(lines) + 1)

    def test_fewer_than_two_lines_ahead(self):
        self.check_told(['deeds'], 1)
        self.check_told(['deeds', 'size 3', 'deeds'], 1)
        self.check_told(['size 3', 'deeds', 'x'], 2)
        self.check_told(['told in 1', 'deeds'], 2)
        self.check_told(['', 'deeds'], 2)

    def test_what_bad_keeper_tells(self):
        self.check_told(TEXT[:-1] + ['size 3', 'deeds'], SIZE - 1)
        for at in range(len(TEXT)):
            for line in ('', 'size 3', 'told row 2 ', 'answer', TEXT[at] + ' '):
                lines = TEXT[:at] + [line] + TEXT[at + 1:] + ['size 9', 'deeds', 'x']
                number = refused(Bench, '\n'.join(lines[:len(TEXT)]), 3)[1]
                self.check_told(lines, number)
        self.check_told(['size 3', 'size 3', 'deeds'], 1)

    def test_sizes(self):
        for size in ['0', '6', '-1', '10', '900000000', '3 3', '', ' 3', '3 '] + NO_INTEGERS:
            self.check_told(TEXT + [f'size {size}', 'deeds', 'x'], SIZE)
        for line in ('Size 3', 'size', '3', ' size 3', 'size  3', 'size 3 ', '', 'sizes 3', 'n 3', 'size\t3'):
            self.check_told(TEXT + [line, 'deeds', 'x'], SIZE)
        for size in range(1, 6):
            self.check_told(TEXT + [f'size {size}', 'deeds'], None)
        # Without a size, the last line of the keeper is taken for it; with two, the first one for a line of the keeper.
        self.check_told(TEXT + ['deeds'], len(TEXT))
        self.check_told(TEXT + ['wish x is no', 'deeds'], SIZE)
        self.check_told(TEXT + ['size 3', 'size 3', 'deeds'], SIZE)

    def test_deeds(self):
        lines = LINES[:BEGIN + 1]
        wrong = [
            '', ' ', 'put', 'put ', 'strike', 'Put row 0 2', 'put  row 0 2', ' put row 0 2', 'put row 0 2 ', 'put row 0  2', 'deeds',
            'put row', 'put row 0', 'put row 0 2 2', 'put row 0 3', 'put row 0 -1', 'put go 0 2', 'put none 0', 'put flag 0', 'row 0 2',
            'let row 0 2', 'put row 1 0', 'put Row 0 2', 'put row 0,2', 'put row (0, 2)', 'undo', 'size 3', 'put in 900000000',
        ] + [f'put row 0 {word}' for word in NO_INTEGERS] + [f'put in {word}' for word in NO_INTEGERS]
        for line in wrong:
            for more in ([], ['put flag'], ['x']):
                self.check_told(lines + [line] + more, BEGIN + 2)
                self.check_told(lines + ['put flag', line] + more, BEGIN + 3)
        for line in ('put row 0 2', 'put row 0 1', 'strike row 1 0', 'put flag', 'strike flag', 'put in 2'):
            self.check_told(lines + [line], None)

    def test_several_lines_deeds(self):
        self.check_told(TEXT + ['size 3', 'deeds', 'deeds'], BEGIN + 1)
        self.check_told(TEXT + ['deeds', 'size 3', 'deeds'], len(TEXT))

    def test_each_line_otherwise(self):
        for at in range(len(LINES)):
            line = LINES[at]
            for other in ([], [line, line], [''], [line + ' '], [' ' + line], [line.replace(' ', '  ', 1)], [line + ' 0'], [line.upper()]):
                lines = LINES[:at] + other + LINES[at + 1:]
                self.check_told(lines, plain_told('\n'.join(lines)))
        for at in range(len(LINES) - 1):
            lines = LINES[:at] + [LINES[at + 1], LINES[at]] + LINES[at + 2:]
            self.check_told(lines, plain_told('\n'.join(lines)))

    def test_drawn_journals(self):
        rng = random.Random(72)
        met = []
        for _ in range(60):
            bench = Bench(random_keeper_text(rng), rng.randint(1, 3))
            for _ in range(5):
                word, name, row = random_change(rng, bench.keeper.told, bench.n)
                refused(bench.put if word == 'put' else bench.strike, name, row)
            lines = journal(bench).split('\n')
            self.check_told(lines, None)
            for _ in range(4):
                at = rng.randrange(len(lines))
                words = lines[at].split(' ')
                words[rng.randrange(len(words))] = rng.choice(['', '0', '1', '2', 'in', 'row', 'put', 'strike', 'size', 'deeds', '-1', 'x'])
                other = lines[:at] + [' '.join(words)] + lines[at + 1:]
                met.append(plain_told('\n'.join(other)))
                self.check_told(other, met[-1])
        self.assertGreater(len(set(met)), 10)


class Benches(Refusals):
    def test_texts_and_sizes(self):
        text = '\n'.join(TEXT)
        for value in odd_objects():
            if not isinstance(value, str):
                self.check(BadKeeper, 0, Bench, value, None)
            self.check(BadSize, value, Bench, text, value)
        self.check(BadKeeper, 9, Bench, '\n'.join(TEXT + ['']), 0)
        self.assertEqual(Bench(text=text, n=2), Bench(text, 2))

    def test_deeds(self):
        bench = read_journal('\n'.join(LINES))
        ahead = journal(bench)
        for call in (bench.put, bench.strike):
            for name in odd_objects() + ['go', 'none', '', 'Row', ('row',)]:
                self.check(BadTable, name, call, name, None)
            for row in odd_objects() + [(0, 3), (0, -1), (0,), (0, 1, 2), [0, 1], (0, True), (0, None), 'ab']:
                self.check(BadRow, row, call, 'row', row)
            for row in [(0,), None, 0, [], False]:
                self.check(BadRow, row, call, 'flag', row)
        self.check(Barred, 6, bench.put, 'row', (1, 0))
        self.assertEqual((journal(bench), bench.deeds), (ahead, 6))
        self.assertEqual([bench.put(name='in', row=(1,)), bench.strike(name='in', row=(2,))], [True, False])
