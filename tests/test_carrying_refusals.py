"""Sections 2 and 12: what the functions of carryings and the makers refuse, in which sequence."""

from tests.plain import balanced
from tests.refusing import Refusals, odd_objects, refused
from withoutloops.books import Book
from withoutloops.carrying import bound_of, far_turned, led_store, most_turned, turned_rows
from withoutloops.errors import (
    BadCarrying, BadChange, BadHead, BadMost, BadPair, BadQuestion, BadSize, BadStore, BadTable, Bounded, HasLoop, NoKeeper,
    Unbounded, Wide,
)
from withoutloops.going import going_keeper
from withoutloops.keepers import Keeper
from withoutloops.makers import beside, both_hold, carried, differs, either_holds, with_answer

SOURCES = (('row', 2), ('in', 1))
TIE = ('tie', ('x', 'y'), 'and row x y not same x y')
RIGHT = (SOURCES, (TIE,))
PAIRS = ((('in', 1),), (('tie', ('x', 'y'), 'and in x in y'),))
NOTHING = (('row', ()), ('in', ()))
PUT = ('put', 'row', (0, 1))
CARRIED = Keeper('told tie 2\nkept go 2\nanswer x y is tie x y')
TWO = (beside, both_hold, either_holds, differs)


def with_row(*row):
    return SOURCES, (row,)


# Each of them has one part wrong.
WRONG = [
    SOURCES, (SOURCES,), (SOURCES, (TIE,), ()), [SOURCES, (TIE,)], (SOURCES, TIE), (SOURCES, [TIE]), (SOURCES, ()), ((), ()),
    (list(SOURCES), (TIE,)), ((), (('tie', (), 'no'),)), ('row', (TIE,)), (None, (TIE,)), (SOURCES, None),
    # Sources.
    ((('row', 2), ('in', 1), ('up', 0)), (TIE,)), ((('row', 3),), (('tie', ('x',), 'row x x x'),)), ((('row', 2), ('row', 1)), (TIE,)),
    ((('row', True),), (('tie', ('x',), 'row x'),)), ((('row', -1),), (('tie', ('x',), 'no'),)), ((('p', 2),), (('tie', ('x',), 'no'),)),
    ((['row', 2],), (TIE,)), ((('Row', 2),), (('tie', ('x',), 'no'),)), ((('put', 2),), (('tie', ('x',), 'no'),)),
    ((('abcdefg', 2),), (('tie', ('x',), 'no'),)), ((('row', 2, 2),), (TIE,)), ((('row',),), (('tie', ('x',), 'no'),)),
    # Rows: how many, their names, heads and texts.
    (SOURCES, (TIE, ('a', (), 'no'), ('b', (), 'no'), ('c', (), 'no'))), (SOURCES, (TIE, TIE)), (SOURCES, (list(TIE),)),
    (SOURCES, (TIE[:2],)), (SOURCES, (TIE + ((),),)), with_row('wish', ('x', 'y'), TIE[2]), with_row('p', ('x', 'y'), TIE[2]),
    with_row(None, ('x', 'y'), TIE[2]), with_row('', ('x', 'y'), TIE[2]), with_row('tieties', ('x', 'y'), TIE[2]),
    with_row('tie', ['x', 'y'], TIE[2]), with_row('tie', ('x', 'x'), 'row x x'), with_row('tie', ('x', 'p'), 'row x p'),
    with_row('tie', ('x', 'y', 'z'), 'row x y'), with_row('tie', ('x', 'in'), 'row x x'), with_row('tie', ('row',), 'no'),
    with_row('tie', 'xy', TIE[2]), with_row('tie', (True,), 'no'), with_row('tie', ('x', 'y'), None), with_row('tie', ('x', 'y'), ''),
    with_row('tie', ('x', 'y'), 'row x'), with_row('tie', ('x', 'y'), 'row x z'), with_row('tie', ('x', 'y'), 'row x p'),
    with_row('tie', ('x', 'y'), 'row x y '), with_row('tie', ('x', 'y'), 'up x'), with_row('tie', ('x', 'y'), 'tie x y'),
    with_row('tie', ('x', 'y'), b'row x y'), with_row('tie', ('x', 'y'), ('row', 'x', 'y')),
    # `some`, `every`, `reach`, too many rows of tables, too many words.
    with_row('tie', ('x',), 'some y row x y'), with_row('tie', ('x',), 'and in x every y row x y'),
    with_row('tie', ('x', 'y'), 'and not same x y reach x y u v row u v'), with_row('tie', ('x', 'y'), 'and no some u row u u'),
    with_row('tie', ('x',), 'or in x ' * 8 + 'in x'), with_row('tie', ('x',), balanced('or', ['no'] * 14 + ['row x x'])),
    # What holds where nothing stands: always, for one place, for two places by their numbers.
    with_row('tie', (), 'yes'), with_row('tie', ('x', 'y'), 'same x y'), with_row('tie', ('x', 'y'), 'less x y'),
    with_row('tie', ('x', 'y'), 'less y x'), with_row('tie', ('x', 'y'), 'not row x y'), with_row('tie', ('x', 'y'), 'not or less x y less y x'),
    with_row('tie', ('x',), 'or in x not row x x'), (SOURCES, (TIE, ('up', ('x',), 'not in x'))),
]

CALLS = [
    lambda value: led_store(value, 0, None), lambda value: turned_rows(value, 0, None, None), bound_of, most_turned,
    lambda value: far_turned(value, None), lambda value: carried(CARRIED, value),
]


class Carryings(Refusals):
    def test_each_part_wrong_by_itself(self):
        self.assertEqual(bound_of(RIGHT), 1)
        for value in WRONG + odd_objects():
            for call in CALLS:
                self.check(BadCarrying, value, call, value)

    def test_as_many_words_and_rows_of_tables_as_there_may_be(self):
        eight = 'or in x ' * 7 + 'in x'
        thirty = balanced('or', ['no'] * 14 + ['in x'])
        self.assertEqual(len(thirty.split(' ')), 30)
        for text in (eight, thirty, 'not not ' * 4 + 'in x'):
            self.assertEqual(bound_of(with_row('tie', ('x',), text)), 1)

    def test_sizes_stores_and_changes(self):
        stores = [(), NOTHING[:1], NOTHING[::-1], [NOTHING[0], NOTHING[1]], (('row', ((0, 2),)), ('in', ())), (('row', ()), ('in', ((True,),))),
                  (('row', ((1, 0), (0, 1))), ('in', ())), (('row', ()), ('in', (0,))), (('row', []), ('in', ()))]
        changes = [('put', 'tie', (0, 1)), ('put', 'row', (0,)), ('put', 'row', (0, 2)), ('put', 'in', (True,)), ['put', 'row', (0, 1)],
                   ('bar', 'row', (0, 1)), ('put', 'row'), ('put', 'row', [0, 1]), (PUT,)]
        for value in odd_objects() + [RIGHT, PUT]:
            self.check(BadSize, value, led_store, RIGHT, value, NOTHING)
            self.check(BadSize, value, turned_rows, RIGHT, value, None, None)
        for value in odd_objects() + stores:
            self.check(BadStore, value, led_store, RIGHT, 2, value)
            self.check(BadStore, value, turned_rows, RIGHT, 2, value, None)
        for value in odd_objects() + changes:
            self.check(BadChange, value, turned_rows, RIGHT, 2, NOTHING, value)

    def test_bounds(self):
        self.check(Unbounded, None, most_turned, PAIRS)
        for value in odd_objects() + [3, 0]:
            self.check(Bounded, 1, far_turned, RIGHT, value)
        for value in odd_objects() + [-1, 4, True, '1']:
            if value != 0 or isinstance(value, bool):
                self.check(BadMost, value, far_turned, PAIRS, value)
        for value in range(4):
            self.assertIsNone(refused(far_turned, PAIRS, value))


class Carried(Refusals):
    def test_what_is_no_keeper(self):
        for value in odd_objects():
            self.check(NoKeeper, value, carried, value, None)

    def test_rows_that_are_not_those_of_told_tables(self):
        two = Keeper('told tie 2\ntold up 1\nkept go 2\nanswer x y is tie x y')
        up = ('up', ('x',), 'in x')
        self.assertIsNone(refused(carried, two, (SOURCES, (('tie', ('x', 'y'), 'row y x'), up))))
        for keeper, rows in ((CARRIED, (('ties', ('x', 'y'), 'row x y'),)), (CARRIED, (('tie', ('x',), 'row x x'),)), (two, (TIE,)),
                             (two, (up, TIE)), (CARRIED, (TIE, up)), (two, (TIE, ('up', (), 'no')))):
            self.check(BadCarrying, (SOURCES, rows), carried, keeper, (SOURCES, rows))

    def test_sources_called_like_kept_tables(self):
        carrying = ((('go', 2),), (('tie', ('x', 'y'), 'go x y'),))
        self.check(BadCarrying, carrying, carried, CARRIED, carrying)
        carrying = ((('row', 2), ('go', 1)), (('tie', ('x', 'y'), 'row x y'),))
        self.check(BadCarrying, carrying, carried, CARRIED, carrying)
        self.assertIsNone(refused(carried, CARRIED, ((('tie', 2),), (('tie', ('x', 'y'), 'tie x y'),))))

    def test_unbounded(self):
        self.check(Unbounded, None, carried, CARRIED, PAIRS)
        carrying = ((('go', 1),), (('tie', ('x', 'y'), 'and go x go y'),))
        self.check(BadCarrying, carrying, carried, CARRIED, carrying)


class Answers(Refusals):
    def test_with_answer(self):
        going = going_keeper()
        for value in odd_objects():
            self.check(NoKeeper, value, with_answer, value, None, None)
        for head in odd_objects() + [('x', 'y', 'z', 'a'), ('x', 'x'), ('p',), ('row',), ('x', 'go'), ['x'], 'x', ('X',)]:
            self.check(BadHead, head, with_answer, going, head, None)
        for text, number in ((None, 0), ('', 1), ('row x', 3), ('turn x x', 1), ('row x p', 3), ('go x x yes', 4), ('some go yes', 2),
                             ('row x x\nwish is yes', 3), (b'yes', 0)):
            self.check(BadQuestion, number, with_answer, going, ('x',), text)
        for text in odd_objects():
            if not isinstance(text, str):
                self.check(BadQuestion, 0, with_answer, going, (), text)
                self.check(BadHead, ('go',), with_answer, going, ('go',), text)
        self.check(HasLoop, 'reach x x u v row u v', with_answer, going, ('x',), 'reach x x u v row u v')
        self.check(BadQuestion, 8, with_answer, going, ('x',), 'reach x x u v row u w')


class Two(Refusals):
    def check_two(self, kind, value, one, other, makers=TWO):
        for maker in makers:
            self.check(kind, value, maker, one, other)

    def keeper(self, *lines):
        return Keeper('\n'.join(lines + ('answer is yes',)))

    def test_what_is_no_keeper(self):
        for value in odd_objects() + [Book(CARRIED, 2)]:
            self.check_two(NoKeeper, value, value, None)
            self.check_two(NoKeeper, value, CARRIED, value)

    def test_told_tables_of_unlike_places(self):
        one = self.keeper('told in 1', 'told row 2', 'told a 1')
        self.check_two(BadPair, 'row', one, self.keeper('told a 0', 'told row 1'))
        self.check_two(BadPair, 'a', one, self.keeper('told a 0', 'told row 2', 'told in 1'))
        self.assertIsNone(refused(beside, one, self.keeper('told in 1', 'told a 1', 'kept row 3')))

    def test_answers_of_unlike_places(self):
        one, other = Keeper('told in 1\nanswer x is in x'), Keeper('told in 1\nanswer is yes')
        self.check_two(BadPair, None, one, other, TWO[1:])
        self.check_two(BadPair, 'in', one, Keeper('told in 0\nanswer is yes'))
        wide = Keeper('told a 1\ntold b 1\ntold c 1\nanswer is yes')
        self.check_two(BadPair, None, one, wide, TWO[1:])
        self.check_two(Wide, 4, one, wide, TWO[:1])
        self.assertIsNone(refused(beside, one, other))

    def test_too_many_tables(self):
        one = self.keeper('told a 1', 'told b 1', 'told c 1', *[f'kept k{at} 1' for at in range(9)])
        other = self.keeper('told c 1', 'told d 1', 'told e 1', *[f'kept m{at} 1' for at in range(8)])
        self.check_two(Wide, 5, one, other)
        self.check_two(Wide, 17, one, self.keeper('told c 1', *[f'kept answ{at} 1' for at in range(7)], 'kept nd 0'))
        self.assertIsNone(refused(beside, one, self.keeper('told c 1', *[f'kept m{at} 1' for at in range(7)])))

    def test_names_that_are_none(self):
        plain = self.keeper('told in 1', 'kept up 1')
        for name in ('nd', 'nswer'):
            self.check_two(BadTable, 'a' + name, self.keeper('told in 1', 'kept x 1', f'kept {name} 1', 'kept sixsix 0'), plain)
            self.assertIsNone(refused(beside, plain, self.keeper('told in 1', f'kept {name} 1')))
        self.check_two(BadTable, 'bar', plain, self.keeper('told in 1', 'kept ar 1'))
        self.assertIsNone(refused(beside, self.keeper('told in 1', 'kept ar 1'), plain))
        self.check_two(BadTable, 'asixsix', self.keeper('told in 1', 'kept fives 1', 'kept sixsix 1'), plain)
        self.check_two(BadTable, 'bsixsix', plain, self.keeper('told in 1', 'kept fives 1', 'kept sixsix 1'))
        self.assertIsNone(refused(beside, self.keeper('told in 1', 'kept fives 1'), self.keeper('told in 1', 'kept fives 1')))

    def test_names_of_told_tables(self):
        one = self.keeper('told in 1', 'kept up 1', 'kept sixsix 1')
        self.check_two(BadTable, 'aup', one, self.keeper('told aup 1'))
        self.check_two(BadTable, 'bup', self.keeper('told bup 1'), self.keeper('told in 1', 'kept up 1', 'kept sixsix 1'))
        # Those of one come first.
        self.check_two(BadTable, 'asixsix', self.keeper('told bup 1', 'kept sixsix 1'), self.keeper('told in 1', 'kept up 1'))
        self.assertIsNone(refused(beside, self.keeper('told bup 1', 'kept up 1'), self.keeper('told in 1', 'kept in1 1')))
