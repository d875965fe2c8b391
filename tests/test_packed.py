"""How questions are gone through: no number has more than 900 figures, whatever is asked."""

import unittest

from withoutloops.asks import Question
from withoutloops.packed import MOST_POSITIONS, Grounds
from withoutloops.stores import AllStores

LIMIT = 10 ** 900


class Sizes(unittest.TestCase):
    def check(self, ground):
        numbers = [ground.full, *ground.copies, *[number for lots in ground.lots for number in lots]]
        self.assertLess(max(numbers), LIMIT)
        self.assertEqual(ground.full.bit_length(), ground.size * ground.stores)

    def test_grounds_of_one_store(self):
        for n in range(1, 6):
            for positions in range(MOST_POSITIONS[n] + 1):
                ground = Grounds(n).with_positions(positions)
                self.assertEqual((ground.size, ground.stores), (n ** positions, 1))
                self.check(ground)
            # One position more would be too many, but for one place.
            self.assertTrue(n == 1 or 2 ** (n ** (MOST_POSITIONS[n] + 1)) > LIMIT)

    def test_grounds_of_all_stores(self):
        tables = (('row', 2), ('in', 1), ('odd', 0))
        for n, many in ((1, 8), (2, 128), (3, 8192)):
            for head in ((), ('x',), ('x', 'y', 'z')):
                for text in ('and odd some u and in u row u u', 'some u some v and row u v and in u odd', 'or row p p and odd in p'):
                    stores = AllStores([Question(head, text, tables, 1)], n)
                    self.check(stores.ground)
                    at_once = stores.ground.stores
                    self.assertEqual((stores.many, len(stores.lots) * at_once), (many, many))
                    # Twice as many at once would be too many, or more than there are.
                    self.assertTrue(at_once == many or 2 ** (2 * at_once * stores.ground.size) > 10 ** 850)

    def test_stores_of_the_tables_that_are_asked(self):
        tables = (('row', 2), ('in', 1), ('odd', 0))
        stores = AllStores([Question((), 'odd', tables, 0), Question((), 'some u in u', tables, 0)], 2)
        told = [stores.store_of(number) for number in range(stores.many)]
        self.assertEqual(len(set(told)), 8)
        self.assertTrue(all(store[0] == ('row', ()) for store in told))
