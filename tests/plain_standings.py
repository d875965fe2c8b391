"""What the tests measure judging by: all STANDINGS of a keeper, and all pairs of them, gone through plainly."""

import itertools

from tests.plain_keepers import PlainBook, all_changes


class TooMany(Exception):
    pass


class PlainRoads:
    """All STANDINGS that the keeper of a text comes to, with what each CHANGE, idle ones too, makes of them."""

    def __init__(self, text, n, most=200):
        self.book = PlainBook(text, n)
        self.told = [(name, many) for name, many in self.book.told.items()]
        self.changes = all_changes(self.told, n)
        self.first = self.standing()
        self.far = {self.first: 0}
        self.leads = {}
        to_do = [self.first]
        for standing in to_do:
            for change in self.changes:
                behind = self.behind(standing, change)
                self.leads[standing, change] = behind
                if behind is not None and behind not in self.far:
                    self.far[behind] = self.far[standing] + 1
                    to_do.append(behind)
                    if len(to_do) > most:
                        raise TooMany
        self.answers = {standing: self.told_by(standing, 'answer') for standing in self.far}
        self.wishes = {standing: self.told_by(standing, 'wish') for standing in self.far}

    def standing(self):
        return self.book.store_of(self.book.told), self.book.store_of(self.book.kept)

    def set(self, standing):
        self.book.rows = {name: set(rows) for name, rows in standing[0] + standing[1]}

    def behind(self, standing, change):
        """The STANDING behind a CHANGE, None if it is barred."""
        self.set(standing)
        self.book.changes = []
        done = self.book.do(change)
        return self.standing() if isinstance(done, bool) else None

    def told_by(self, standing, word):
        self.set(standing)
        return self.book.told_by(word)

    def run(self, changes, start=None):
        """The STANDING behind CHANGES, None if one of them is barred."""
        standing = self.first if start is None else start
        for change in changes:
            standing = self.leads[standing, change]
            if standing is None:
                return None
        return standing

    def fewest_wrong(self):
        """By how many CHANGES the keeper first comes to where it is not right, None if it never does."""
        return min((far for one, far in self.far.items() if self.answers[one] != self.wishes[one]), default=None)

    def fewest_on_road(self, name):
        """The least sum of CHANGES to two STANDINGS of one told STORE and unlike rows of a kept table, or None."""
        return min((
            self.far[one] + self.far[other] for one, other in itertools.combinations(self.far, 2)
            if one[0] == other[0] and dict(one[1])[name] != dict(other[1])[name]
        ), default=None)

    def is_needless(self, name):
        return not any(
            one[0] == other[0] and all((rows == dict(other[1])[table]) == (table != name) for table, rows in one[1])
            for one, other in itertools.combinations(self.far, 2)
        )

    def many_lots(self):
        """Into how many lots the STANDINGS fall, none of two in a lot being parted."""
        leaders = []
        for one in self.far:
            if all(fewest_parting(self, self, one, leader) is not None for leader in leaders):
                leaders.append(one)
        return len(leaders)


def is_parted(one, other, first, second, changes):
    """Whether CHANGES part two STANDINGS of these roads."""
    if changes:
        first, second = one.run(changes[:-1], first), other.run(changes[:-1], second)
        if first is None or second is None:
            return False
        first, second = one.leads[first, changes[-1]], other.leads[second, changes[-1]]
        if first is None or second is None:
            return (first is None) != (second is None)
    return one.answers[first] != other.answers[second]


def fewest_parting(one, other, first, second):
    """How many CHANGES part two STANDINGS at least, None if none do: by going through all pairs that are come to."""
    far = {(first, second): 0}
    to_do = [(first, second)]
    found = [0] if one.answers[first] != other.answers[second] else []
    for pair in to_do:
        for change in one.changes:
            both = one.leads[pair[0], change], other.leads[pair[1], change]
            many = far[pair] + 1
            if None in both:
                found += [many] if both != (None, None) else []
                continue
            if one.answers[both[0]] != other.answers[both[1]]:
                found.append(many)
            if both not in far:
                far[both] = many
                to_do.append(both)
    return min(found, default=None)
