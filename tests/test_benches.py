"""Sections 3 (i) and 15: benches, beside a plain one, and the journals of what was drawn."""

import random
import unittest

from tests.drawn_keepers import random_keeper_text
from tests.plain_benches import KEEPS, PlainBench, Thrown, random_deeds
from withoutloops.benches import Bench
from withoutloops.books import Book, booked
from withoutloops.errors import Barred, NoBlock, NothingToRedo, NothingToUndo
from withoutloops.journals import journal, read_journal
from withoutloops.keepers import Keeper

TEXT = 'told in 1\ntold flag 0\nkept last 1\nput in\nbar in p\nbar and flag same p p\nset last x is same x p\nanswer x is last x'


class Beside(unittest.TestCase):
    def setUp(self):
        self.met = []

    def check_same(self, bench, plain):
        book = plain.book()
        changes = tuple(plain.deeds)
        now = bench.book_now()
        self.assertIsInstance(now, Book)
        self.assertEqual((now.store, now.kept), (book.store_of(book.told), book.store_of(book.kept)))
        self.assertEqual((now.changes, now.answer), (changes, book.told_by('answer')))
        self.assertEqual(now, booked(Keeper(plain.text), plain.n, changes))
        self.assertEqual((bench.deeds, len(bench), bench.n, bench.keeper), (len(changes), len(changes), plain.n, Keeper(plain.text)))
        self.assertIs(type(bench.deeds), int)
        self.assertEqual(journal(bench), plain.journal())

    def tell(self, call, *errors):
        """What a call tells, None if it is refused."""
        try:
            return call()
        except errors:
            return None

    def do(self, bench, plain, deed):
        """Does a drawn deed in both."""
        kind = deed[0]
        if kind == 'do':
            word, name, row = deed[1]
            told = self.tell(lambda: bench.put(name, row) if word == 'put' else bench.strike(name, row), Barred)
            self.assertIs(told, plain.do(deed[1]))
        elif kind == 'undo':
            told = self.tell(lambda: bench.undo() or 'done', NothingToUndo)
            self.assertEqual(told, plain.undo())
        elif kind == 'redo':
            told = self.tell(lambda: bench.redo() or 'done', NothingToRedo)
            self.assertEqual(told, plain.redo())
        elif kind == 'keep':
            told = self.tell(lambda: bench.keep() or 'done', NoBlock)
            self.assertEqual(told, plain.keep())
        elif kind == 'throw':
            raise Thrown(deed)
        else:
            told = self.do_trial(bench, plain, deed)
        self.met.append((kind, told))
        self.check_same(bench, plain)

    def do_trial(self, bench, plain, deed):
        _, keep, deeds = deed
        told = []

        def look(given):
            self.assertIs(given, bench)
            return plain.tried(lambda one: self.do_all(bench, one, deeds), keep)

        try:
            told = bench.tried(look, keep=keep)
        except Thrown as error:
            self.assertEqual(error.args, (('throw',),))
            return 'thrown'
        self.assertIs(told, deeds)
        return 'kept' if len(bench) else 'none'

    def do_all(self, bench, plain, deeds):
        for deed in deeds:
            self.do(bench, plain, deed)
        return deeds

    def check_ends(self, bench, plain):
        """All that can be done again, and all that can be undone."""
        while plain.undone:
            self.do(bench, plain, ('redo',))
        self.do(bench, plain, ('redo',))
        while plain.deeds:
            self.do(bench, plain, ('undo',))
        self.do(bench, plain, ('undo',))
        self.do(bench, plain, ('redo',))

    def test_drawn_deeds(self):
        rng = random.Random(61)
        for _ in range(60):
            text, n = random_keeper_text(rng), rng.randint(1, 3)
            bench, plain = Bench(text, n), PlainBench(text, n)
            self.check_same(bench, plain)
            try:
                self.do_all(bench, plain, random_deeds(rng, Keeper(text).told, n, 14))
            except Thrown:
                self.fail()
            self.check_copies(bench, plain, rng)
            again = read_journal(journal(bench))
            self.assertEqual(again, bench)
            self.check_same(again, plain)
            self.check_ends(bench, plain)
        for told in (('do', True), ('do', False), ('do', None), ('undo', None), ('undo', 'done'), ('redo', None), ('redo', 'done'),
                     ('try', 'kept'), ('try', 'thrown'), ('keep', None), ('keep', 'done')):
            self.assertGreater(self.met.count(told), 3, told)

    def check_copies(self, bench, plain, rng):
        """A copy is alike in what can be undone and done again, and goes on by itself."""
        copy, other = bench.copy(), PlainBench(plain.text, plain.n)
        other.deeds, other.undone = list(plain.deeds), list(plain.undone)
        self.assertEqual(copy, bench)
        self.do_all(copy, other, random_deeds(rng, Keeper(plain.text).told, plain.n, 4))
        self.check_same(bench, plain)
        self.check_ends(copy, other)
        self.check_same(bench, plain)


class Deeds(unittest.TestCase):
    def setUp(self):
        self.bench = Bench(TEXT, 3)

    def changes(self, bench=None):
        return [change[2] for change in (bench or self.bench).book_now().changes]

    def test_what_deeds_return(self):
        bench = self.bench
        self.assertEqual([bench.put('in', (0,)), bench.put('in', (0,)), bench.strike('in', (1,)), bench.strike('in', (0,))],
                         [True, False, False, True])
        self.assertEqual((bench.deeds, len(bench)), (4, 4))
        self.assertIsNone(bench.undo())
        self.assertIsNone(bench.redo())
        self.assertEqual(bench.book_now().changes[3], ('strike', 'in', (0,)))

    def test_idle_deeds_are_undone_one_by_one(self):
        bench = self.bench
        for _ in range(3):
            bench.put('in', (0,))
        for many in (2, 1, 0):
            bench.undo()
            self.assertEqual((bench.deeds, len(bench)), (many, many))
        for many in (1, 2, 3):
            bench.redo()
            self.assertEqual(bench.deeds, many)

    def test_redo_behind_deeds(self):
        bench = self.bench
        bench.put('flag', ())
        bench.put('flag', ())
        bench.undo()
        # A deed that is refused is none: what was undone can be done again.
        with self.assertRaises(Barred):
            bench.put('in', (0,))
        for name, row in (('none', ()), ('flag', (0,))):
            with self.assertRaises(ValueError):
                bench.put(name, row)
        bench.redo()
        self.assertEqual(bench.deeds, 2)
        # An idle one is a deed.
        bench.undo()
        bench.strike('in', (2,))
        with self.assertRaises(NothingToRedo):
            bench.redo()
        self.assertEqual(self.changes(), [(), (2,)])

    def test_undo_and_redo_are_no_other_deeds(self):
        bench = self.bench
        for place in range(3):
            bench.put('in', (place,))
        bench.undo()
        bench.undo()
        bench.redo()
        bench.undo()
        bench.redo()
        bench.redo()
        self.assertEqual(self.changes(), [(0,), (1,), (2,)])
        with self.assertRaises(NothingToRedo) as caught:
            bench.redo()
        self.assertIsNone(caught.exception.value)
        for _ in range(3):
            bench.undo()
        with self.assertRaises(NothingToUndo) as caught:
            bench.undo()
        self.assertIsNone(caught.exception.value)
        bench.redo()
        self.assertEqual(self.changes(), [(0,)])

    def test_book_now_is_by_itself(self):
        bench = self.bench
        bench.put('in', (0,))
        book = bench.book_now()
        book.put('in', (1,))
        self.assertEqual((self.changes(), len(bench)), ([(0,)], 1))
        bench.put('in', (2,))
        self.assertEqual([change[2] for change in book.changes], [(0,), (1,)])
        self.assertIsNot(bench.book_now(), bench.book_now())
        self.assertEqual(bench.book_now(), bench.book_now())


class Trials(unittest.TestCase):
    def setUp(self):
        self.bench = Bench(TEXT, 3)
        self.bench.put('in', (0,))
        self.bench.put('in', (1,))
        self.bench.undo()

    def rows(self):
        return [change[2] for change in self.bench.book_now().changes]

    def test_what_stands(self):
        for keep in KEEPS + [2, 'True', {}]:
            for keeps in (True, False):
                self.setUp()

                def look(bench):
                    bench.put('in', (2,))
                    if keeps:
                        self.assertIsNone(bench.keep())
                    return [keep]

                told = self.bench.tried(look, keep=keep)
                self.assertEqual(told, [keep])
                if keep is True or keeps:
                    self.assertEqual(self.rows(), [(0,), (2,)])
                    with self.assertRaises(NothingToRedo):
                        self.bench.redo()
                    self.bench.undo()
                    self.assertEqual(self.rows(), [(0,)])
                else:
                    self.assertEqual(self.rows(), [(0,)])
                    self.bench.redo()
                    self.assertEqual(self.rows(), [(0,), (1,)])

    def test_without_keep(self):
        self.assertEqual(self.bench.tried(lambda bench: bench.put('in', (2,))), True)
        self.assertEqual(self.rows(), [(0,)])
        with self.assertRaises(TypeError):
            self.bench.tried(lambda bench: None, True)
        self.assertIsNone(self.bench.tried(look=lambda bench: bench.keep()))

    def test_errors_pass_on(self):
        for error in (Thrown('x'), ValueError('y'), KeyboardInterrupt(), NoBlock(None)):
            for keep in (True, False):
                def look(bench):
                    bench.put('in', (2,))
                    bench.keep()
                    bench.undo()
                    bench.undo()
                    raise error

                with self.assertRaises(type(error)) as caught:
                    self.bench.tried(look, keep=keep)
                self.assertIs(caught.exception, error)
                self.assertEqual((self.rows(), self.bench.deeds), ([(0,)], 1))
                with self.assertRaises(NoBlock):
                    self.bench.keep()
        self.bench.redo()
        self.assertEqual(self.rows(), [(0,), (1,)])

    def test_refused_deeds_that_a_look_catches(self):
        def look(bench):
            with self.assertRaises(Barred):
                bench.put('flag', ()) and bench.put('in', (2,))
            return bench.deeds

        self.assertEqual(self.bench.tried(look, keep=True), 2)
        self.assertEqual(self.rows(), [(0,), ()])

    def test_undo_and_redo_of_what_was_done_ahead(self):
        def look(bench):
            bench.redo()
            bench.undo()
            bench.undo()
            self.assertEqual(bench.deeds, 0)
            with self.assertRaises(NothingToUndo):
                bench.undo()
            bench.redo()
            bench.redo()
            bench.undo()
            bench.undo()

        self.bench.tried(look)
        self.assertEqual(self.rows(), [(0,)])
        self.bench.tried(look, keep=True)
        self.assertEqual(self.rows(), [])
        self.bench.redo()
        self.bench.redo()
        self.assertEqual(self.rows(), [(0,), (1,)])

    def test_trials_within_trials(self):
        for outer in (True, False):
            for inner in (True, False):
                self.setUp()

                def look(bench):
                    bench.put('in', (2,))
                    bench.tried(lambda one: one.put('flag', ()), keep=inner)
                    return self.rows()

                self.assertEqual(self.bench.tried(look, keep=outer), [(0,), (2,)] + ([()] if inner else []))
                self.assertEqual(self.rows(), [(0,)] + ([(2,)] + ([()] if inner else []) if outer else []))

    def test_keep_belongs_to_the_innermost_trial(self):
        def look(bench):
            bench.put('in', (2,))
            bench.tried(lambda one: (one.put('flag', ()), one.keep()))
            self.assertEqual(self.rows(), [(0,), (2,), ()])
            bench.tried(lambda one: one.strike('in', (2,)))
            self.assertEqual(self.rows(), [(0,), (2,), ()])

        self.bench.tried(look)
        self.assertEqual(self.rows(), [(0,)])

        def keeps_then_tries(bench):
            bench.keep()
            bench.tried(lambda one: one.put('flag', ()))
            bench.put('in', (2,))

        self.bench.tried(keeps_then_tries)
        self.assertEqual(self.rows(), [(0,), (2,)])

    def test_keep_outside(self):
        for _ in range(2):
            with self.assertRaises(NoBlock) as caught:
                self.bench.keep()
            self.assertIsNone(caught.exception.value)
            self.bench.tried(lambda bench: bench.keep())
        self.assertEqual(self.rows(), [(0,)])

    def test_copies_within_trials(self):
        copies = []

        def look(bench):
            bench.put('in', (2,))
            copies.append(bench.copy())
            with self.assertRaises(NoBlock):
                copies[0].keep()
            copies[0].put('flag', ())
            copies[0].tried(lambda one: one.keep())
            bench.put('in', (1,))
            self.assertEqual(self.rows(), [(0,), (2,), (1,)])

        self.bench.tried(look)
        self.assertEqual(self.rows(), [(0,)])
        copy = copies[0]
        self.assertEqual(copy.deeds, 3)
        copy.undo()
        copy.undo()
        self.assertEqual(copy, self.bench)
        copy.redo()
        self.assertEqual(copy.deeds, 2)

    def test_what_a_look_returns(self):
        value = [1]
        self.assertIs(self.bench.tried(lambda bench: value), value)
        self.assertIs(self.bench.tried(lambda bench: bench), self.bench)
        self.assertIsNone(self.bench.tried(lambda bench: None, keep=True))


class Equal(unittest.TestCase):
    def test_equality(self):
        one, other = Bench(TEXT, 3), Bench(TEXT, 3)
        self.assertTrue(one == other)
        self.assertFalse(one != other)
        one.put('in', (0,))
        self.assertFalse(one == other)
        other.put('in', (0,))
        self.assertTrue(one == other)
        # What can be done again is not in the journal.
        one.put('in', (1,))
        one.undo()
        self.assertTrue(one == other)
        # Another sequence, idle deeds, another n and another text are.
        one.put('in', (0,))
        self.assertFalse(one == other)
        self.assertFalse(Bench(TEXT, 2) == Bench(TEXT, 3))
        self.assertFalse(Bench(TEXT, 2) == Bench(TEXT + '\nwish x is no', 2))
        self.assertEqual(Bench(TEXT, 2).copy(), Bench(TEXT, 2))

    def test_nothing_else_is_equal(self):
        bench = Bench(TEXT, 2)
        for value in (None, TEXT, journal(bench), bench.book_now(), bench.keeper, 0, (), [bench], (bench,)):
            self.assertFalse(bench == value)
            self.assertTrue(bench != value)
