"""All stores of some tables, and what questions answer upon each of them: many stores are asked at once."""

from withoutloops.leaves import Leaves, leaf_rows
from withoutloops.packed import Ground, Walk, most_positions
from withoutloops.values import all_rows

# How many bits a ground of several stores may have: no table is a number of more than 900 figures.
MOST_BITS = 2900


def are_more_pairs(tables, n, changed, most):
    """Whether there are more than most pairs of a STORE of the tables and a row of so many changed places."""
    many = len(all_rows(n, changed))
    for _, places in tables:
        for _ in all_rows(n, places):
            # The number itself may be beyond all bounds.
            if many > most:
                return True
            many = many * 2
    return many > most


def asked_tables(questions):
    """The tables, all questions having the same ones, for which one of the questions asks."""
    words = [word for question in questions for word in question.text.split(" ")]
    return [table for table in questions[0].tables if table[0] in words]


class AllStores:
    """All STORES over n places, of the tables of some questions, in which no row stands that none asks for.

    They are numbered from 0: if the bit of a row is in the number of a store, then this row stands in it.
    """

    def __init__(self, questions, n):
        self.n = n
        self.tables = questions[0].tables
        asked = asked_tables(questions)
        self.rows = [(name, row) for name, many in asked for row in all_rows(n, many)]
        self.many = 1 << len(self.rows)
        positions = most_positions(questions, n)
        size = len(all_rows(n, positions))
        at_once = 1
        while at_once < self.many and at_once * 2 * size <= MOST_BITS:
            at_once = at_once * 2
        self.ground = Ground(n, positions, at_once)
        everything = [(name, all_rows(n, many)) for name, many in asked]
        self.leaves = Leaves(leaf_rows(n, everything), None)
        self.lots = [self.lot_from(first) for first in range(0, self.many, at_once)]

    def lot_from(self, first):
        """For each row the bits of the stores in which it stands, of those that stand on the ground from first on."""
        return {row: self.bits_of(at, first) for at, row in enumerate(self.rows)}

    def bits_of(self, at, first):
        """The bits of the stores that have the row with this number, of those from first on."""
        whole = (1 << self.ground.size) - 1
        found = 0
        for store in range(self.ground.stores):
            if (first + store) >> at & 1:
                found = found | whole << store * self.ground.size
        return found

    def answers(self, question, row):
        """By the numbers of the stores, what tells which rows the question answers, by this changed row."""
        found = []
        for standing in self.lots:
            table = Walk(self.ground, self.leaves, standing).whole_table(question, row)
            found.extend(self.ground.by_stores(table))
        return found

    def store_of(self, number):
        """The STORE with this number."""
        standing = [row for at, row in enumerate(self.rows) if number >> at & 1]
        return tuple([
            (name, tuple([row for other, row in standing if other == name])) for name, _ in self.tables
        ])
