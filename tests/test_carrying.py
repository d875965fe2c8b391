"""Section 12: carryings, beside a plain going through all rows, stores and changes."""

import random
import unittest

from tests.plain import random_rows
from tests.plain_carrying import SOURCES, all_changes, plain_counts, plain_led, plain_turned, random_carrying
from withoutloops.carrying import bound_of, far_turned, led_store, most_turned, turned_rows
from withoutloops.errors import Bounded, Unbounded

ROW, IN = (('row', 2),), (('in', 1),)
TWO_WAYS = (ROW, (('tie', ('x', 'y'), 'and less x y or row x y row y x'),))
PAIRS = (IN, (('tie', ('x', 'y'), 'and and in x in y less x y'),))

# Carryings, and what bound_of tells of them.
BOUNDS = [
    (TWO_WAYS, 1),
    (PAIRS, None),
    ((ROW, (('tie', ('x', 'y'), 'and row x y no'),)), 0),
    ((ROW, (('tie', ('x', 'y'), 'no'),)), 0),
    ((ROW, (('tie', (), 'no'),)), 0),
    # What is told to both ways turns two rows; three tables turn six.
    ((ROW, (('tie', ('x', 'y'), 'or row x y row y x'),)), 2),
    ((ROW, tuple((name, ('x', 'y'), 'or row x y row y x') for name in ('a', 'b', 'c'))), 6),
    # The turned row is only the changed one if this is (p, p).
    ((ROW, (('loop', ('x',), 'row x x'),)), 1),
    ((ROW, (('loop', ('x',), 'row x x'), ('tie', ('x', 'y'), 'row y x'))), 2),
    # A row turned with a place that is not of the changed row: by a loop, by a source of less places, by a yes or no.
    ((ROW, (('tie', ('x', 'y'), 'and row x x row x y'),)), None),
    ((ROW, (('tie', ('x', 'y'), 'and row x y not row y y'),)), None),
    ((ROW, (('tie', ('x', 'y'), 'and less x y row x x'),)), None),
    ((ROW, (('tie', ('x', 'y'), 'and less y x row x x'),)), None),
    ((ROW + IN, (('tie', ('x', 'y'), 'and row x y in x'),)), None),
    ((ROW + IN, (('tie', ('x', 'y'), 'and row x y or in x in y'),)), None),
    ((ROW + IN, (('tie', ('x', 'y'), 'and row x y not or in x in y'),)), None),
    ((ROW + IN, (('tie', ('x', 'y'), 'and row x y not same x y'), ('up', ('x',), 'and in x not row x x'))), 1),
    ((ROW + IN, (('up', ('x',), 'and in x row x x'),)), 1),
    ((ROW + IN, (('up', ('x',), 'in x'), ('no1', ('x',), 'and in x not row x x'), ('loop', ('x', 'y'), 'and same x y in y'))), 3),
    # Two sources are needed: what stands in the one lets the other one turn more.
    ((ROW + (('sow', 2),), (('a', ('x', 'y'), 'and row x y sow x y'), ('b', ('x', 'y'), 'and row x y sow y x'))), 2),
    ((ROW + (('sow', 2),), (
        ('a', ('x', 'y'), 'and row x y sow x y'), ('b', ('x', 'y'), 'and row x y sow y x'),
        ('c', ('x', 'y'), 'and row x y or sow x y sow y x'),
    )), 4),
    ((ROW + (('sow', 2),), (('a', ('x', 'y'), 'or and row x y sow y x and row y x sow x y'),)), 2),
    (((('odd', 0),) + IN, (('up', ('x',), 'and odd in x'),)), None),
    (((('odd', 0),) + IN, (('up', ('x',), 'and in x not odd'),)), None),
    (((('odd', 0),) + IN, (('up', ('x',), 'in x'), ('c', (), 'odd'))), 1),
    (((('odd', 0), ('even', 0)), (('a', (), 'and odd even'), ('b', (), 'and odd not even'), ('c', (), 'or odd even'))), 2),
    (((('odd', 0),), (('up', ('x', 'y'), 'and odd less x y'),)), None),
    (((('odd', 0),), (('up', ('x', 'y'), 'and odd same x y'),)), None),
    # By less alone: the same rows, told apart by which place is the lesser one.
    ((ROW, (('tie', ('x', 'y'), 'and less x y and row x x row y y'),)), None),
    ((ROW, (('tie', ('x', 'y'), 'and and less x y row x y not less y x'),)), 1),
]


class Led(unittest.TestCase):
    def test_drawn_carryings(self):
        rng = random.Random(1)
        for n in range(1, 6):
            for _ in range(40):
                carrying = random_carrying(rng, rng.choice(SOURCES))
                sources, rows = carrying
                store = tuple((name, random_rows(rng, many, n)) for name, many in sources)
                self.assertEqual(led_store(carrying, n, store), plain_led(carrying, n, store))
                for change in rng.sample(all_changes(sources, n), min(6, len(all_changes(sources, n)))):
                    turned = turned_rows(carrying, n, store, change)
                    self.assertEqual(turned, plain_turned(carrying, n, store, change))
                    self.assertIsInstance(turned, tuple)

    def test_idle_changes_turn_none(self):
        store = (('row', ((0, 1),)),)
        self.assertEqual(turned_rows(TWO_WAYS, 2, store, ('put', 'row', (0, 1))), ((), ()))
        self.assertEqual(turned_rows(TWO_WAYS, 2, store, ('strike', 'row', (1, 0))), ((), ()))

    def test_turned_rows_ascend_by_names_then_places(self):
        carrying = (IN, (('up', ('x',), 'in x'), ('b', ('y', 'x'), 'and in x in y'), ('c', ('x',), 'in x')))
        self.assertEqual(
            turned_rows(carrying, 2, (('in', ((0,),)),), ('put', 'in', (1,))),
            ((), (('b', (0, 1)), ('b', (1, 0)), ('b', (1, 1)), ('c', (1,)), ('up', (1,)))),
        )
        self.assertEqual(
            turned_rows(carrying, 2, (('in', ((1,),)),), ('strike', 'in', (1,))),
            ((('b', (1, 1)), ('c', (1,)), ('up', (1,))), ()),
        )
        self.assertEqual([name for name, _ in led_store(carrying, 1, (('in', ()),))], ['up', 'b', 'c'])

    def test_a_source_may_have_the_name_of_a_led_table(self):
        carrying = (ROW, (('row', ('y', 'x'), 'row x y'),))
        self.assertEqual(led_store(carrying, 3, (('row', ((0, 1), (2, 2))),)), (('row', ((1, 0), (2, 2))),))
        self.assertEqual(bound_of(carrying), 1)


class Bounds(unittest.TestCase):
    def check_most(self, carrying, bound):
        n, store, change = most_turned(carrying)
        self.assertIn(n, range(1, 6))
        self.assertEqual(sum(map(len, plain_turned(carrying, n, store, change))), bound)
        self.assertEqual(turned_rows(carrying, n, store, change), plain_turned(carrying, n, store, change))
        for many in (0, 3, 4, None):
            with self.assertRaises(Bounded) as caught:
                far_turned(carrying, many)
            self.assertEqual(caught.exception.value, bound)

    def check_far(self, carrying):
        for many in range(4):
            n, store, change = far_turned(carrying, many)
            self.assertIn(n, range(1, 6))
            self.assertGreater(sum(map(len, turned_rows(carrying, n, store, change))), many)
            self.assertEqual(turned_rows(carrying, n, store, change), plain_turned(carrying, n, store, change))
        with self.assertRaises(Unbounded) as caught:
            most_turned(carrying)
        self.assertIsNone(caught.exception.value)

    def check_bound(self, carrying, most_places):
        """bound_of beside all stores and changes of few places."""
        bound = bound_of(carrying)
        found = [plain_counts(carrying, n) for n in range(1, most_places + 1)]
        if any(has_strangers for _, has_strangers in found):
            self.assertIsNone(bound)
            self.check_far(carrying)
        else:
            self.assertEqual(bound, max(max(counts) for counts, _ in found))
            self.check_most(carrying, bound)
        return bound

    def test_told_bounds(self):
        for carrying, bound in BOUNDS:
            with self.subTest(carrying):
                self.assertIs(type(bound_of(carrying)), type(bound))
                self.assertEqual(bound_of(carrying), bound)
                wide = sum(2 ** many for _, many in carrying[0]) > 6
                self.assertEqual(self.check_bound(carrying, 2 if wide else 3), bound)

    def test_drawn_carryings(self):
        rng = random.Random(2)
        met = []
        for sources in SOURCES * 12:
            carrying = random_carrying(rng, sources)
            met.append(self.check_bound(carrying, 4 if max(many for _, many in sources) < 2 else 2))
        for bound in (0, 1, 2, None):
            self.assertIn(bound, met)

    def test_drawn_changes_of_many_places_turn_no_more(self):
        rng = random.Random(3)
        for _ in range(150):
            carrying = random_carrying(rng, rng.choice(SOURCES))
            bound = bound_of(carrying)
            store = tuple((name, random_rows(rng, many, 5)) for name, many in carrying[0])
            for change in rng.sample(all_changes(carrying[0], 5), 2):
                if bound is not None:
                    turned = turned_rows(carrying, 5, store, change)
                    self.assertLessEqual(sum(map(len, turned)), bound)
                    self.assertFalse([row for some in turned for _, row in some if set(row) - set(change[2])])
