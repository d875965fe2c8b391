"""Section 5: what answered, looks and joined refuse, and the first that is listed of several."""

from tests.plain import nested, odd_values
from tests.refusing import Refusals, refused
from withoutloops.asks import Question
from withoutloops.engines import answered, joined, looks
from withoutloops.errors import BadRow, BadSize, BadStore, HasLoop, NoQuestion

TABLES = (('row', 2), ('in', 1), ('odd', 0))
STORE = (('row', ((0, 1), (1, 2))), ('in', ((0,), (2,))), ('odd', ()))
PLAIN = Question(('x',), 'in x', TABLES, 1)
LOOP = Question(('x',), 'reach x p u v row u v', TABLES, 1)


class EngineRefusals(Refusals):
    def check_both(self, kind, value, *given):
        self.check(kind, value, answered, *given)
        self.check(kind, value, joined, *given)

    def test_nothing_is_refused_that_is_right(self):
        self.assertIsNone(refused(answered, PLAIN, 3, STORE, (2,)))
        self.assertIsNone(refused(answered, LOOP, 3, STORE, (2,)))
        self.assertIsNone(refused(joined, PLAIN, 3, STORE, (2,)))
        self.assertIsNone(refused(looks, PLAIN, 3))
        for n in (1, 2, 3, 4, 5):
            self.assertIsNone(refused(answered, PLAIN, n, (('row', ()), ('in', ((n - 1,),)), ('odd', ((),))), (n - 1,)))

    def test_what_is_no_question(self):
        for value in odd_values() + ['in x', (('x',), 'in x', TABLES, 1), Question]:
            self.check_both(NoQuestion, value, value, 3, STORE, (0,))
            self.check(NoQuestion, value, looks, value, 3)

    def test_loop_questions(self):
        self.check(HasLoop, LOOP.text, joined, LOOP, 3, STORE, (0,))
        self.check(HasLoop, LOOP.text, looks, LOOP, 3)
        inner = Question((), 'not some u reach u u x y yes', (), 0)
        self.check(HasLoop, inner.text, joined, inner, 3, (), ())
        self.check(HasLoop, inner.text, looks, inner, 3)

    def test_numbers_of_places_that_are_none(self):
        for n in odd_values() + [True, False, 0, 6, -3, '3', (3,), [3], 10 ** 8]:
            self.check_both(BadSize, n, PLAIN, n, STORE, (0,))
            self.check(BadSize, n, answered, LOOP, n, STORE, (0,))
            self.check(BadSize, n, looks, PLAIN, n)
        empty = tuple((name, ()) for name, _ in TABLES)
        self.check(BadSize, True, answered, PLAIN, True, empty, (0,))

    def test_stores_that_are_none(self):
        row, inside, odd = STORE
        stores = odd_values() + [
            (), STORE[:2], STORE + (('more', ()),), (inside, row, odd), list(STORE), (list(row), inside, odd),
            (row, inside, ('even', ())), (row, inside, ('odd',)), (row, inside, ('odd', (), ())), (row, row, odd),
            (row, inside, ((), 'odd')), (row, inside, (None, ())), (row, inside, (['odd'], ())), (row, inside, None),
            (row, inside, 'odd'), (row, inside, ()), (row, inside, ('odd', None)), (row, inside, ('odd', True)),
            (row, inside, ('odd', [])), (row, inside, ('odd', ((), ()))), (row, inside, ('odd', ((0,),))),
            (row, inside, ('odd', ([],))), (row, inside, ('odd', (None,))), (row, inside, ('odd', ({},))),
            dict(STORE), 'row',
        ]
        rows = [
            ((1, 2), (0, 1)), ((0, 1), (0, 1)), ((0, 1), (1, 2), (1, 2)), ((0, 1), (2, 0), (1, 0)), ((0,),),
            ((0, 1, 2),), ((0, 3),), ((3, 0),), ((-1, 0),), ((0, True),), ((False, 1),), ((0, None),), ((0, '1'),),
            ([0, 1],), [(0, 1)], ((0, 1), None), ((0, 1), ()), (0, 1), ((0, (1,)),), ((0, nested(lambda x: (x,))),),
            {(0, 1): True}, '01', ((0, 1), [1, 2]), ('01',), ((0, 6),), ((0, 1), (0, 2), (0, 1)),
        ]
        stores += [(('row', some), inside, odd) for some in rows]
        rows = [((2,), (0,)), ((0,), (0,)), (0,), ((0, 1),), ((),), ((True,),), ((3,),)]
        stores += [(row, ('in', some), odd) for some in rows]
        for store in stores:
            with self.subTest(store):
                self.check_both(BadStore, store, PLAIN, 3, store, (0,))
                self.check(BadStore, store, answered, LOOP, 3, store, (0,))

    def test_stores_hang_on_how_many_places_there_are(self):
        self.assertIsNone(refused(answered, PLAIN, 3, STORE, (0,)))
        self.check_both(BadStore, STORE, PLAIN, 2, STORE, (0,))
        self.check_both(BadStore, STORE, PLAIN, 1, STORE, (0,))

    def test_stores_without_tables(self):
        question = Question((), 'yes', (), 0)
        self.assertEqual(answered(question, 1, (), ()), ((),))
        for store in odd_values() + [STORE, [], None, {}]:
            if store != ():
                self.check_both(BadStore, store, question, 1, store, ())

    def test_rows_that_are_none(self):
        for row in odd_values() + [(), (3,), (-1,), (0, 1), (True,), ('0',), [0], 0, ((0,),), (None,), {0: 0}]:
            if row != (0,):
                with self.subTest(row):
                    self.check_both(BadRow, row, PLAIN, 3, STORE, row)
        told = [(0, [(0,), [], None]), (2, [(0,), (0, 1, 2), (0, 3), [0, 1]]), (3, [(0, 1), (0, 1, 2, 0)])]
        for changed, rows in told:
            question = Question((), 'yes', (), changed)
            for row in rows:
                self.check_both(BadRow, row, question, 3, (), row)
            self.assertIsNone(refused(answered, question, 3, (), (2,) * changed))

    def test_the_first_that_is_listed(self):
        store, row, text, n = [], [0], 'in x', 6
        self.check_both(NoQuestion, text, text, n, store, row)
        self.check_both(BadSize, n, PLAIN, n, store, row)
        self.check_both(BadStore, store, PLAIN, 3, store, row)
        self.check_both(BadRow, row, PLAIN, 3, STORE, row)
        self.check(HasLoop, LOOP.text, joined, LOOP, n, store, row)
        self.check(BadSize, n, answered, LOOP, n, store, row)
        self.check(NoQuestion, text, looks, text, n)
        self.check(HasLoop, LOOP.text, looks, LOOP, n)
        self.check(BadSize, n, looks, PLAIN, n)
