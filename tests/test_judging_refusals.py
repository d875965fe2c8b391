"""Sections 2 and 13: what the functions of judging refuse, in which sequence."""

from tests.refusing import Refusals, odd_objects, refused
from withoutloops.books import Book
from withoutloops.errors import BadChanges, BadMost, BadPair, BadSize, BadTable, NoKeeper, NoWish, Wide
from withoutloops.judging import (
    acts, alike, judged, needless, on_road, parted, shows_alike, shows_judged, shows_on_road, shows_parted, standings,
)
from withoutloops.keepers import Keeper

LINES = ['told in 1', 'kept last 1', 'put in', 'set last x is same x p', 'strike in', 'bar last p', 'answer x is last x', 'wish x is in x']
KEEPER = Keeper('\n'.join(LINES))
NO_WISH = Keeper('\n'.join(LINES[:-1]))
OTHER = Keeper('told in 2\nanswer x is in x x\nwish x is in x x')
THERE = ('put', 'in', (0,))

# Each function that takes one keeper, and n behind it, with what stands behind n.
ONE = [
    (standings, ()), (judged, ()), (acts, ()), (needless, ()), (on_road, ('last',)), (parted, ((), ())),
    (shows_judged, ()), (shows_on_road, ('last',)), (shows_parted, ((), ())),
]


class Refused(Refusals):
    def more(self, call):
        """What stands behind most."""
        return (None,) if call.__name__.startswith('shows_') else ()

    def check_one(self, kind, value, call, *given):
        self.check(kind, value, call, *given, *self.more(call))

    def test_what_is_no_keeper(self):
        for value in odd_objects() + [Book(KEEPER, 2), KEEPER.text]:
            for call, between in ONE:
                self.check_one(NoKeeper, value, call, value, 0, *[None] * len(between), None)
            for call in (alike, shows_alike):
                self.check_one(NoKeeper, value, call, value, None, 0, None)
                self.check_one(NoKeeper, value, call, KEEPER, value, 0, None)

    def test_without_a_wish(self):
        for call in (judged, shows_judged):
            self.check_one(NoWish, None, call, NO_WISH, 0, None)
        for call, between in ONE:
            if call not in (judged, shows_judged):
                self.assertIsNone(refused(call, NO_WISH, 2, *between, 20, *self.more(call)))

    def test_told_tables_that_are_not_the_same(self):
        others = [OTHER, Keeper('told in 1\ntold up 1\nanswer is yes'), Keeper('told up 1\nanswer is yes')]
        for other in others:
            for call in (alike, shows_alike):
                self.check_one(BadPair, (KEEPER.told, other.told), call, KEEPER, other, 0, None)
                self.check_one(BadPair, (other.told, KEEPER.told), call, other, KEEPER, 0, None)
        # The same tables in another sequence are not the same.
        one, other = [Keeper(f'told {a} 1\ntold {b} 1\nanswer is yes') for a, b in (('x', 'y'), ('y', 'x'))]
        self.check(BadPair, (one.told, other.told), alike, one, other, 2, 9)

    def test_numbers_of_places(self):
        for value in odd_objects():
            for call, between in ONE:
                self.check_one(BadSize, value, call, KEEPER, value, *[None] * len(between), None)
            for call in (alike, shows_alike):
                self.check_one(BadSize, value, call, KEEPER, KEEPER, value, None)

    def test_names_of_tables(self):
        for value in odd_objects() + ['in', 'last ', ('last',), 'lasts']:
            for call in (on_road, shows_on_road):
                self.check_one(BadTable, value, call, KEEPER, 2, value, 0)

    def test_changes_that_are_none(self):
        barred = (THERE, ('strike', 'in', (0,)))
        for call in (parted, shows_parted):
            for value in odd_objects() + [[THERE], THERE, (THERE, None), barred]:
                number = None if not isinstance(value, tuple) else 1 if value in (barred, (THERE, None)) else 0
                if value != ():
                    self.check_one(BadChanges, number, call, KEEPER, 2, value, None, None)
                    self.check_one(BadChanges, number, call, KEEPER, 2, (), value, None)

    def test_most(self):
        for value in odd_objects() + [20001, 10 ** 12]:
            if isinstance(value, int) and not isinstance(value, bool) and 1 <= value <= 20000:
                continue
            for call, between in ONE:
                self.check_one(BadMost, value, call, KEEPER, 2, *between, value)
            for call in (alike, shows_alike):
                self.check_one(BadMost, value, call, KEEPER, KEEPER, 2, value)

    def test_wide(self):
        for call, between in ONE:
            self.check_one(Wide, 2, call, KEEPER, 2, *between, 2)
            self.assertIsNone(refused(call, KEEPER, 2, *between, 20000, *self.more(call)))
        small = Keeper('told in 1\nput in\nbar yes\nanswer x is in x')
        for call in (alike, shows_alike):
            self.check_one(Wide, 1, call, KEEPER, small, 2, 1)
            self.check_one(Wide, 1, call, small, KEEPER, 2, 1)
            self.assertIsNone(refused(call, small, small, 5, 1, *self.more(call)))

    def test_wide_though_it_is_wrong_at_once(self):
        keeper = Keeper('told in 1\nanswer is yes\nwish is no')
        self.check(Wide, 3, judged, keeper, 2, 3)
        self.check(Wide, 3, shows_judged, keeper, 2, 3, ('wrong', ()))
        self.assertEqual(judged(keeper, 2, 4), ('wrong', ()))
        self.check(Wide, 3, alike, keeper, Keeper('told in 1\nanswer is no'), 2, 3)
        self.check(Wide, 3, parted, keeper, 2, (), (THERE,), 3)

    def test_values_of_all_kinds_are_shown_to_be_wrong(self):
        wrong = judged(KEEPER, 2, 99)
        self.assertEqual(wrong[0], 'wrong')
        rash = Keeper('\n'.join(LINES[:2] + ['strike in', 'set last x is yes'] + LINES[-2:]))
        told = [(shows_judged, (KEEPER,), judged(KEEPER, 2, 99)), (shows_alike, (KEEPER, rash), alike(KEEPER, rash, 2, 99)),
                (shows_judged, (Keeper('told in 1\nanswer is no\nwish is no'),), ('right', 4))]
        for value in odd_objects() + [KEEPER, wrong + wrong, [wrong], (wrong,), ('wrong', [THERE]), ('wrong', None), ('right', None), (None, ())]:
            for call, keepers, right in told:
                self.assertIs(call(*keepers, 2, 99, right), True)
                if value != right:
                    self.assertIs(call(*keepers, 2, 99, value), False, value)
            self.assertIs(shows_parted(KEEPER, 2, (), (THERE,), 99, value), value == parted(KEEPER, 2, (), (THERE,), 99))
            self.assertIs(shows_on_road(KEEPER, 2, 'last', 99, value), False)

    def test_by_names(self):
        self.assertEqual(standings(keeper=KEEPER, n=1, most=9), judged(keeper=KEEPER, n=1, most=9)[1])
        self.assertIsNone(alike(one=KEEPER, other=NO_WISH, n=2, most=9))
        self.assertIs(shows_alike(one=KEEPER, other=NO_WISH, n=2, most=9, value=None), True)
        self.assertIsNone(parted(keeper=KEEPER, n=2, one=(), other=(), most=9))
        self.assertIs(shows_parted(keeper=KEEPER, n=2, one=(), other=(), most=9, value=()), False)
        self.assertEqual(on_road(keeper=KEEPER, n=1, name='last', most=9), None)
        self.assertIs(shows_on_road(keeper=KEEPER, n=1, name='last', most=9, value=None), True)
        self.assertIs(shows_judged(keeper=KEEPER, n=1, most=9, value=None), False)
        self.assertEqual([acts(keeper=KEEPER, n=1, most=9), needless(keeper=KEEPER, n=1, most=9)], [2, ('last',)])
