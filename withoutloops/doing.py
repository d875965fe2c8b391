"""Changes: which values are changes, and what stands behind one."""

from withoutloops.errors import BadChange, BadTable, Barred
from withoutloops.leaves import Leaves
from withoutloops.values import check_row, is_row


def is_told_name(name, told):
    """Whether name is that of one of the told tables."""
    return isinstance(name, str) and name in dict(told)


def check_change(change, told, n):
    """Refuses what is no CHANGE of these told tables over n places."""
    if not isinstance(change, tuple) or len(change) != 3:
        raise BadChange(change)
    word, name, row = change
    if not isinstance(word, str) or word not in ("put", "strike"):
        raise BadChange(change)
    if not is_told_name(name, told) or not is_row(row, dict(told)[name], n):
        raise BadChange(change)


def told_change(word, name, row, told, n):
    """The CHANGE told by its parts. Refuses what is no told table's name, and no row of this table."""
    if not is_told_name(name, told):
        raise BadTable(name)
    check_row(row, dict(told)[name], n)
    return word, name, row


def is_idle(store, change):
    """Whether the row that is put stands already, or the one that is struck does not."""
    word, name, row = change
    return (row in dict(store)[name]) == (word == "put")


def told_behind(store, change):
    """The STORE of told tables behind a change that is not idle."""
    word, changed, row = change
    found = []
    for name, rows in store:
        if name == changed and word == "put":
            rows = tuple(sorted(rows + (row,)))
        elif name == changed:
            rows = tuple([other for other in rows if other != row])
        found.append((name, rows))
    return tuple(found)


def kept_behind(plan, grounds, store, kept, change):
    """The STORE of kept tables behind a change that is not idle, store and kept standing ahead of it."""
    word, changed, row = change
    leaves = Leaves({}, grounds.leaves_upon(store + kept))
    fresh = {}
    for line in plan.sections.get((word, changed), []):
        rows = grounds.rows_that_hold(line.question, leaves, row)
        if line.word == "set":
            fresh[line.name] = rows
        elif line.word == "let":
            leaves.tell(line.name, rows)
        elif len(rows) > 0:
            raise Barred(line.number)
    return tuple([(name, fresh.get(name, standing)) for name, standing in kept])


def kept_at_first(plan, grounds):
    """The STORE of kept tables ahead of all changes."""
    leaves = grounds.leaves_upon(())
    found = []
    for name, _ in plan.kept:
        rows = ()
        if name in plan.firsts:
            rows = grounds.rows_that_hold(plan.firsts[name], leaves, ())
        found.append((name, rows))
    return tuple(found)
