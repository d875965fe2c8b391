"""Questions answered by going through all places, many of them at once.

A ground has a few positions, and a bit for each row of places at them. A table over it is one integer: the bits of
the rows that hold. A name of a place takes a position that no other name needs where it is alive, so a ground has
no more positions than the question is wide. If there are not enough of them, a name is gone through place by place.
A ground may have such bits for several stores, one store's bits behind the other's: then all are gone through at once.
"""

from withoutloops.asks import width
from withoutloops.leaves import Leaves, plain_leaves
from withoutloops.values import CHANGED_NAMES, all_rows

# How many positions a ground may have, by the number of places: no table is a number of more than 900 figures.
MOST_POSITIONS = (0, 16, 11, 7, 5, 4)


def repeated(many, gap):
    """The number with so many bits, one at each gap, the first one the lowest."""
    return ((1 << many * gap) - 1) // ((1 << gap) - 1)


class Spot:
    """Where a name of a place stands: by place the bits that have it there, its position, None if it has none.

    Spots with one key are alike: that is the position, or a number below 0 for each place.
    """

    def __init__(self, position, lots, key):
        self.position = position
        self.lots = lots
        self.key = key


class Ground:
    """All rows of n places at some positions, a bit for each: that of a row is the sum of places times gaps."""

    def __init__(self, n, positions, stores):
        self.n = n
        self.positions = positions
        self.gaps = []
        many = 1
        for _ in range(positions):
            self.gaps.append(many)
            many = many * n
        self.size = many
        self.stores = stores
        self.full = (1 << many * stores) - 1
        self.copies = [repeated(n, gap) for gap in self.gaps]
        self.lots = [self.lots_of(many * stores, gap) for gap in self.gaps]
        self.spots = [Spot(position, lots, position) for position, lots in enumerate(self.lots)]
        self.fixed_spots = [Spot(None, self.lots_at(place), -1 - place) for place in range(n)]
        self.heads = {}

    def lots_of(self, many, gap):
        """By place, which of so many bits have this place at the position with this gap."""
        lowest = repeated(many // (gap * self.n), gap * self.n) * ((1 << gap) - 1)
        return [lowest << place * gap for place in range(self.n)]

    def lots_at(self, place):
        """By place, all bits for this one and none for others."""
        return [self.full if other == place else 0 for other in range(self.n)]

    def parted(self, table, position):
        """By place, the table with this place put at the position, whichever stands there."""
        gap = self.gaps[position]
        lots = self.lots[position]
        lowest = [(table & lots[place]) >> place * gap for place in range(self.n)]
        return [bits * self.copies[position] for bits in lowest]

    def head_bits(self, many):
        """The rows at the first so many positions, ascending, each with its bit in the first store."""
        rows = all_rows(self.n, many)
        return [(row, sum([place * gap for place, gap in zip(row, self.gaps)])) for row in rows]

    def rows_of(self, table, many):
        """The ascending tuple of the rows at the first so many positions that stand in the table's first store."""
        if many not in self.heads:
            self.heads[many] = self.head_bits(many)
        return tuple([row for row, bit in self.heads[many] if table >> bit & 1])

    def by_stores(self, table):
        """The bits of each store in the table."""
        whole = (1 << self.size) - 1
        return [table >> store * self.size & whole for store in range(self.stores)]


def united(tables):
    """The table of what stands in at least one of the tables."""
    found = 0
    for table in tables:
        found = found | table
    return found


def common(tables):
    """The table of what stands in each of one or more tables."""
    found = tables[0]
    for table in tables:
        found = found & table
    return found


def held(tree, lots, at):
    """The table of what has one of the rows of a tree at the names with these lots, those from at on."""
    found = 0
    if at == len(lots) - 1:
        for place in tree:
            found = found | lots[at][place]
        return found
    for place, inner in tree.items():
        lot = lots[at][place]
        if lot != 0:
            found = found | lot & held(inner, lots, at + 1)
    return found


class Walk:
    """Goes through all rows of a ground, and tells for which of them the parts of a question hold.

    leaves tell by each word of a leaf the rows for which it holds. standing is None if all of them stand in each store
    of the ground; otherwise it tells by (word, row) in which stores the row stands, as the table of their bits, and
    where it tells nothing, the row stands in all of them.
    """

    def __init__(self, ground, leaves, standing):
        self.ground = ground
        self.leaves = leaves
        self.standing = standing

    def whole_table(self, question, row):
        """The table of a Question, the names of its head at the first positions, asked with this changed row."""
        spots = {}
        for position, name in enumerate(question.head):
            spots[name] = self.ground.spots[position]
        for name, place in zip(CHANGED_NAMES, row):
            spots[name] = self.ground.fixed_spots[place]
        return self.table(question.whole, spots)

    def table(self, part, spots):
        """The table of a part, the names that are alive there standing at these spots."""
        word = part.word
        if len(part.inner) == 0:
            return self.leaf(word, [spots[name] for name in part.places])
        if word == "not":
            return self.ground.full ^ self.table(part.inner[0], spots)
        if word == "and":
            return self.both(part.inner, spots)
        if word == "or":
            return self.either(part.inner, spots)
        tables = self.by_places(part.inner[0], part.bound, spots)
        if word == "some":
            return united(tables)
        if word == "every":
            return common(tables)
        return self.come_to(tables, spots[part.places[0]], spots[part.places[1]])

    def leaf(self, word, spots):
        """The table of what has one of the rows of this word at names with these spots."""
        leaves = self.leaves.layer(word)
        if self.standing is not None:
            return self.leaf_in_some(word, leaves.rows[word], [spot.lots for spot in spots])
        if len(spots) == 0:
            return self.ground.full if len(leaves.rows[word]) > 0 else 0
        key = (self.ground.positions, word, tuple([spot.key for spot in spots]))
        if key not in leaves.tables:
            leaves.tables[key] = held(leaves.tree(word, len(spots)), [spot.lots for spot in spots], 0)
        return leaves.tables[key]

    def leaf_in_some(self, word, rows, lots):
        """The same, where the rows do not stand in all stores."""
        found = 0
        for row in rows:
            bits = self.standing.get((word, row), self.ground.full)
            for place, by_place in zip(row, lots):
                bits = bits & by_place[place]
            found = found | bits
        return found

    def both(self, inner, spots):
        """The table of what stands in both inner parts."""
        one = self.table(inner[0], spots)
        # To go through the other part may take long, and could tell nothing more here.
        if one == 0:
            return one
        return one & self.table(inner[1], spots)

    def either(self, inner, spots):
        """The table of what stands in at least one of both inner parts."""
        one = self.table(inner[0], spots)
        # To go through the other part may take long, and could tell nothing more here.
        if one == self.ground.full:
            return one
        return one | self.table(inner[1], spots)

    def unused(self, part, bound, spots):
        """A position that none of the names needs that are free in this part but for the bound ones, or None."""
        needed = [spots[name].position for name in part.free if name not in bound]
        for position in range(len(self.ground.gaps)):
            if position not in needed:
                return position
        return None

    def by_places(self, part, bound, spots):
        """The tables of a part, one for each row of places of the bound names, these rows ascending."""
        if len(bound) == 0:
            return [self.table(part, spots)]
        position = self.unused(part, bound, spots)
        if position is None:
            return self.by_each_place(part, bound, spots)
        spread = dict(spots)
        spread[bound[0]] = self.ground.spots[position]
        tables = [self.ground.parted(table, position) for table in self.by_places(part, bound[1:], spread)]
        return [by_place[place] for place in range(self.ground.n) for by_place in tables]

    def by_each_place(self, part, bound, spots):
        """The same tables, the first bound name put at one place after the other."""
        tables = []
        for place in range(self.ground.n):
            put = dict(spots)
            put[bound[0]] = self.ground.fixed_spots[place]
            tables.extend(self.by_places(part, bound[1:], put))
        return tables

    def come_to(self, steps, start, end):
        """The table of what comes from start to end by steps: tables, for each two places one, ascending."""
        n = self.ground.n
        places = range(n)
        come = []
        for place in places:
            tables = steps[place * n:place * n + n]
            tables[place] = self.ground.full
            come.append(tables)
        for over in places:
            for one in places:
                for other in places:
                    come[one][other] = come[one][other] | come[one][over] & come[over][other]
        found = 0
        for one in places:
            for other in places:
                found = found | start.lots[one] & end.lots[other] & come[one][other]
        return found


def most_positions(questions, n):
    """How many positions a ground has upon which each of the questions is asked."""
    return min(max([width(question) for question in questions]), MOST_POSITIONS[n])


class Grounds:
    """What questions over n places are asked upon, each ground made once, and the leaves of the last store."""

    def __init__(self, n):
        self.n = n
        self.by_positions = {}
        self.plain = Leaves(plain_leaves(n), None)
        self.last_store = None
        self.last_leaves = None

    def with_positions(self, positions):
        """The ground with so many positions."""
        if positions not in self.by_positions:
            self.by_positions[positions] = Ground(self.n, positions, 1)
        return self.by_positions[positions]

    def leaves_upon(self, store):
        """By their words, the rows for which all leaves hold upon a store."""
        if self.last_store != store:
            self.last_store = store
            self.last_leaves = Leaves(dict(store), self.plain)
        return self.last_leaves

    def rows_that_hold(self, question, leaves, row):
        """The ascending tuple of the rows for which the question holds upon these leaves, with this changed row."""
        ground = self.with_positions(most_positions([question], self.n))
        table = Walk(ground, leaves, None).whole_table(question, row)
        return ground.rows_of(table, len(question.head))
