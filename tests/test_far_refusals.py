"""Sections 2 and 14: what the functions of far histories refuse, in which sequence."""

from tests.refusing import Refusals, odd_objects, refused
from withoutloops.books import Book
from withoutloops.errors import BadHistory, BadMost, BadSize, NoKeeper
from withoutloops.far import again_after, answer_behind, behind, many
from withoutloops.keepers import Keeper

KEEPER = Keeper('told row 2\ntold in 1\ntold flag 0\nkept go 1\nput flag\nbar yes\nanswer x is in x')
PUT = ('put', 'row', (0, 1))
FAR = 10 ** 12
CALLS = (behind, answer_behind, again_after)

# Each is no part of a history of two places.
NO_PARTS = [
    None, 0, 'again', 'put', (), ('put',), PUT[:2], PUT + (0,), list(PUT), ('bar', 'row', (0, 1)), ('Put', 'row', (0, 1)),
    ('put', 'go', (0,)), ('put', 'none', (0,)), ('put', None, (0,)), ('put', ('row',), (0, 1)), ('put', 'row', (0, 2)),
    ('put', 'row', (0, -1)), ('put', 'row', (0,)), ('put', 'row', (0, 1, 1)), ('put', 'row', [0, 1]), ('put', 'row', (0, True)),
    ('put', 'row', (False, 1)), ('put', 'row', None), ('put', 'in', 0), ('put', 'flag', (0,)), ('put', 'row', '01'), (PUT,), ((PUT,),),
    # Repeats.
    ('again',), ('again', 2), ('again', 2, (PUT,), ()), ['again', 2, (PUT,)], ('again', True, (PUT,)), ('again', False, (PUT,)),
    ('again', -1, (PUT,)), ('again', FAR + 1, (PUT,)), ('again', None, (PUT,)), ('again', '2', (PUT,)), ('again', (2,), (PUT,)),
    ('again', 2, [PUT]), ('again', 2, PUT), ('again', 2, None), ('again', 2, 2), ('again', 2, 'put'), ('again', 0, (None,)),
    ('again', 0, None), ('Again', 2, (PUT,)), ('', 2, (PUT,)), (2, 'again', (PUT,)), (('again',), 2, (PUT,)), ('again', (PUT,), 2),
]


def within(part, times):
    """A part that stands within so many repeats."""
    for at in range(times):
        part = ('again', at + 1, (PUT, part, PUT))
    return part


class Histories(Refusals):
    def test_what_is_no_keeper(self):
        for value in odd_objects() + [Book(KEEPER, 2), KEEPER.text]:
            self.check(NoKeeper, value, many, value, 0, None)
            for call in CALLS:
                self.check(NoKeeper, value, call, value, 0, None, None)

    def test_numbers_of_places(self):
        for value in odd_objects():
            self.check(BadSize, value, many, KEEPER, value, None)
            for call in CALLS:
                self.check(BadSize, value, call, KEEPER, value, None, None)

    def test_what_is_no_history(self):
        for value in odd_objects() + [[], [PUT], PUT, 'put', {PUT: 1}]:
            if value != ():
                self.check(BadHistory, value, many, KEEPER, 2, value)
                for call in CALLS:
                    self.check(BadHistory, value, call, KEEPER, 2, value, 0)

    def test_parts_that_are_none_at_each_depth(self):
        for part in NO_PARTS:
            for times in range(4):
                for history in ((within(part, times),), (PUT, within(part, times)), (within(part, times), PUT)):
                    self.check(BadHistory, history, many, KEEPER, 2, history)
                    self.check(BadHistory, history, behind, KEEPER, 2, history, None)

    def test_at_most_three_within_one_another(self):
        for times in range(4):
            for part in (PUT, ('strike', 'flag', ())):
                self.assertIsNone(refused(many, KEEPER, 2, (within(part, times), within(part, 3))))
        for times in (4, 5, 20):
            history = (PUT, within(PUT, times))
            self.check(BadHistory, history, many, KEEPER, 2, history)
            for call in CALLS:
                self.check(BadHistory, history, call, KEEPER, 2, history, 9)
        deep = (('again', 0, (within(('again', 1, ()), 2),)),)
        self.check(BadHistory, deep, many, KEEPER, 2, deep)

    def test_numbers_of_times(self):
        for times in (0, 1, FAR):
            self.assertEqual(many(KEEPER, 2, (('again', times, (PUT, PUT)),)), 2 * times)
        self.assertEqual(many(KEEPER, 2, (('again', FAR, (('again', FAR, (('again', FAR, (PUT,)),)),)), PUT)), FAR * FAR * FAR + 1)

    def test_barred_changes_are_changes(self):
        barred = ('put', 'flag', ())
        self.assertEqual(many(KEEPER, 2, (barred, ('again', 3, (barred,)))), 4)
        self.assertEqual(many(KEEPER, 2, (('again', 3, (('again', 2, (barred, PUT)), PUT)),)), 15)

    def test_most(self):
        for value in odd_objects() + [20001, FAR]:
            if isinstance(value, int) and not isinstance(value, bool) and 1 <= value <= 20000:
                continue
            for call in CALLS:
                self.check(BadMost, value, call, KEEPER, 2, (), value)
                # Ahead of what comes of doing it.
                self.check(BadMost, value, call, KEEPER, 2, (('put', 'flag', ()),), value)
        for call in CALLS:
            for value in (1, 20000):
                self.assertIsNone(refused(call, KEEPER, 2, (), value))

    def test_by_names(self):
        self.assertEqual(many(keeper=KEEPER, n=2, history=(PUT,)), 1)
        self.assertEqual(behind(keeper=KEEPER, n=2, history=(), most=1)[1], (('go', ()),))
        self.assertEqual(answer_behind(keeper=KEEPER, n=2, history=(), most=1), ())
        self.assertEqual(again_after(keeper=KEEPER, n=2, history=(PUT,), most=2), (1, 1))
