"""Leaves: the rows for which the questions hold within which there is no other question."""

from withoutloops.values import all_rows


def plain_leaves(n):
    """By their words, the rows for which the leaves hold that ask no table, over n places."""
    pairs = all_rows(n, 2)
    return {
        "yes": ((),),
        "no": (),
        "same": tuple([(one, other) for one, other in pairs if one == other]),
        "less": tuple([(one, other) for one, other in pairs if one < other]),
    }


def leaf_rows(n, store):
    """By their words, the rows for which all leaves hold, over n places."""
    rows = plain_leaves(n)
    for name, standing in store:
        rows[name] = standing
    return rows


def tree_of(rows, many):
    """Rows of so many places, one or more: by the first place those behind it, and so on; of one place a list."""
    if many == 1:
        return [row[0] for row in rows]
    found = {}
    for row in rows:
        found.setdefault(row[0], []).append(row[1:])
    return {place: tree_of(some, many - 1) for place, some in found.items()}


class Leaves:
    """By their words, the rows for which leaves hold; beneath are the Leaves that tell of all other words, if any.

    tables are what was worked out of these rows by now: they are asked again and again.
    """

    def __init__(self, rows, beneath):
        self.rows = rows
        self.beneath = beneath
        self.trees = {}
        self.tables = {}

    def layer(self, word):
        """The Leaves that tell of this word."""
        if word in self.rows:
            return self
        return self.beneath.layer(word)

    def tree(self, word, many):
        """The tree of the rows of this word, which have so many places."""
        if word not in self.trees:
            self.trees[word] = tree_of(self.rows[word], many)
        return self.trees[word]

    def tell(self, word, rows):
        """Tells the rows of a word that was not told yet."""
        self.rows[word] = rows
