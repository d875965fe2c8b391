"""Questions answered by tables joined: each part has a table of its own, made of those of the parts within it."""

from withoutloops.leaves import leaf_rows
from withoutloops.values import CHANGED_NAMES, all_rows


class Table:
    """Unlike rows of places of some unlike names."""

    def __init__(self, names, rows):
        self.names = names
        self.rows = rows

    def rows_as(self, names):
        """Its rows, with the places of these names of it alone, in their sequence."""
        picks = [self.names.index(name) for name in names]
        return [tuple([row[pick] for pick in picks]) for row in self.rows]


def join_tables(one, other):
    """The table of the rows of places of all names that stand in both tables, as far as these have the names."""
    shared = [name for name in one.names if name in other.names]
    added = tuple([name for name in other.names if name not in one.names])
    matches = {}
    for key, row in zip(other.rows_as(shared), other.rows_as(added)):
        matches.setdefault(key, []).append(row)
    rows = []
    for key, row in zip(one.rows_as(shared), one.rows):
        rows.extend([row + match for match in matches.get(key, [])])
    return Table(one.names + added, rows)


def widened(table, n, names):
    """The table with those of the names too that it lacks, each place standing there."""
    lacked = tuple([name for name in names if name not in table.names])
    return join_tables(table, Table(lacked, all_rows(n, len(lacked))))


def without_name(table, name, least):
    """The table without one of its names, of the rows that stand with at least so many places of this name."""
    names = tuple([other for other in table.names if other != name])
    counts = {}
    for row in table.rows_as(names):
        counts[row] = counts.get(row, 0) + 1
    return Table(names, [row for row in counts if counts[row] >= least])


class Joiner:
    """Makes the tables of all parts of a question, and counts the rows that they hold."""

    def __init__(self, n, rows, changed):
        self.n = n
        self.rows = rows
        self.changed = changed
        self.held = 0

    def table(self, part):
        """The table of a part. Each call counts its rows, and those of the parts within it, once."""
        made = self.made(part, [self.table(inner) for inner in part.inner])
        self.held += len(made.rows)
        return made

    def made(self, part, tables):
        """The table of a part, made of those of the parts within it."""
        word = part.word
        if word in self.rows:
            return self.leaf(part)
        if word == "not":
            return self.lacking(tables[0])
        if word == "and":
            return join_tables(tables[0], tables[1])
        if word == "or":
            return self.either(tables[0], tables[1])
        # Where E does not ask for the bound name, each place is as good: some and every tell what E does.
        if part.bound[0] not in tables[0].names:
            return tables[0]
        return without_name(tables[0], part.bound[0], 1 if word == "some" else self.n)

    def leaf(self, part):
        """The table of a part with no other one within it."""
        found = {}
        for row in self.rows[part.word]:
            given = dict(self.changed)
            fits = True
            for name, place in zip(part.places, row):
                fits = fits and given.setdefault(name, place) == place
            if fits:
                found[tuple([given[name] for name in part.free])] = True
        return Table(part.free, list(found))

    def lacking(self, table):
        """The table of the rows that do not stand in this one."""
        standing = set(table.rows)
        return Table(table.names, [row for row in all_rows(self.n, len(table.names)) if row not in standing])

    def either(self, one, other):
        """The table of the rows that stand in at least one of both, as far as these have the names."""
        wide = widened(one, self.n, other.names)
        others = widened(other, self.n, one.names).rows_as(wide.names)
        standing = {row: True for row in wide.rows + others}
        return Table(wide.names, list(standing))


def joined_rows(question, n, store, row):
    """The ascending tuple of the rows for which a loopless question holds, and how many rows all tables hold."""
    joiner = Joiner(n, leaf_rows(n, store), dict(zip(CHANGED_NAMES, row)))
    whole = widened(joiner.table(question.whole), n, question.head)
    return tuple(sorted(whole.rows_as(question.head))), joiner.held
