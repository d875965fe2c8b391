"""Standings: what stands in told and kept tables, what stands behind changes, and all that a keeper comes to."""

from withoutloops.doing import is_idle, kept_at_first, kept_behind, told_behind
from withoutloops.errors import BadMost, Barred, Wide
from withoutloops.packed import Grounds
from withoutloops.values import all_rows, is_integer

GREATEST_MOST = 20000

# What stands in the place of a number where a change is barred.
BARRED = -1


def check_most(most):
    """Refuses what is no limit of how many STANDINGS there are."""
    if not is_integer(most, 1, GREATEST_MOST):
        raise BadMost(most)


class Doer:
    """Does a keeper's changes over n places, from STANDING to STANDING."""

    def __init__(self, keeper, n):
        self.plan = keeper.plan
        self.n = n
        self.grounds = Grounds(n)

    def first(self):
        """The STANDING ahead of all changes."""
        return tuple([(name, ()) for name, _ in self.plan.told]), kept_at_first(self.plan, self.grounds)

    def done(self, standing, change):
        """The STANDING behind a change."""
        store, kept = standing
        if is_idle(store, change):
            return standing
        fresh = kept_behind(self.plan, self.grounds, store, kept, change)
        return told_behind(store, change), fresh

    def all_done(self, changes):
        """The STANDING behind these changes, None if one of them is barred."""
        standing = self.first()
        for change in changes:
            try:
                standing = self.done(standing, change)
            except Barred:
                return None
        return standing

    def asked(self, question, standing):
        """The ascending tuple of the rows for which a question over told and kept tables holds."""
        leaves = self.grounds.leaves_upon(standing[0] + standing[1])
        return self.grounds.rows_that_hold(question, leaves, ())

    def answer_at(self, standing):
        """What the keeper's answer tells."""
        return self.asked(self.plan.answer, standing)

    def is_right(self, standing):
        """Whether the keeper's answer is what it wishes."""
        return self.answer_at(standing) == self.asked(self.plan.wish, standing)


class Landscape:
    """All STANDINGS that a keeper comes to over n places, numbered as they are come to: first by fewest changes.

    rows are all rows of told tables. leads tells for each STANDING, by these rows, the number of the STANDING to which
    the one change leads that is not idle, or that it is barred. came tells for each by which one and which change it
    is come to first, far by how many changes.
    """

    def __init__(self, doer, most):
        self.doer = doer
        self.most = most
        self.rows = [(name, row) for name, many in doer.plan.told for row in all_rows(doer.n, many)]
        self.met = []
        self.numbers = {}
        self.came = []
        self.far = []
        self.leads = []
        self.meet(doer.first(), None)
        while len(self.leads) < len(self.met):
            number = len(self.leads)
            self.leads.append([self.lead(number, name, row) for name, row in self.rows])

    def meet(self, standing, came):
        """The number of a STANDING that is come to like this."""
        if standing not in self.numbers:
            if len(self.met) == self.most:
                raise Wide(self.most)
            self.numbers[standing] = len(self.met)
            self.met.append(standing)
            self.came.append(came)
            self.far.append(0 if came is None else self.far[came[0]] + 1)
        return self.numbers[standing]

    def lead(self, number, name, row):
        """To which STANDING the change of a row leads that is not idle."""
        standing = self.met[number]
        word = "strike" if row in dict(standing[0])[name] else "put"
        change = (word, name, row)
        try:
            behind = self.doer.done(standing, change)
        except Barred:
            return BARRED
        return self.meet(behind, (number, change))

    def changes_to(self, number):
        """The fewest changes that lead to the STANDING with this number."""
        changes = []
        while self.came[number] is not None:
            number, change = self.came[number]
            changes.append(change)
        return tuple(changes[::-1])
