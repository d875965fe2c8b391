"""Which values are integers, names, tables, rows and stores, and the checks that refuse all others.

A value that is handed in may be anything. So it is never compared or looked up before it is known to be
of the right kind: True is not 1, and a list is not a tuple.
"""

from withoutloops.errors import BadPlace, BadRow, BadSize, BadStore

MOST_PLACES = 5
MOST_IN_ROW = 3
MOST_SIGNS = 6

CHANGED_NAMES = ("p", "q", "r")

LETTERS = "abcdefghijklmnopqrstuvwxyz"
FIGURES = "0123456789"

NO_NAMES = (
    "yes", "no", "same", "less", "not", "and", "or", "some", "every", "reach", "told", "kept", "first", "put",
    "strike", "let", "bar", "set", "answer", "wish", "is", "p", "q", "r",
)


def is_integer(value, low, high):
    """Whether value is an integer from low to high."""
    return isinstance(value, int) and not isinstance(value, bool) and low <= value <= high


def is_name(value):
    """Whether value is a NAME."""
    if not isinstance(value, str) or not 1 <= len(value) <= MOST_SIGNS or value in NO_NAMES:
        return False
    return value[0] in LETTERS and all([sign in LETTERS or sign in FIGURES for sign in value])


def are_unlike_names(values):
    """Whether all values are NAMES, and no two of them the same."""
    return all([is_name(value) for value in values]) and len(set(values)) == len(values)


def is_head(value):
    """Whether value is a tuple of none to three unlike NAMES."""
    return isinstance(value, tuple) and len(value) <= MOST_IN_ROW and are_unlike_names(value)


def is_table(value):
    """Whether value is a pair of anything and how many places a row has."""
    return isinstance(value, tuple) and len(value) == 2 and is_integer(value[1], 0, MOST_IN_ROW)


def is_tables(value):
    """Whether value is TABLES."""
    if not isinstance(value, tuple) or not all([is_table(table) for table in value]):
        return False
    return are_unlike_names([name for name, _ in value])


def is_row(value, many, n):
    """Whether value is a tuple of so many of n places."""
    if not isinstance(value, tuple) or len(value) != many:
        return False
    return all([is_integer(place, 0, n - 1) for place in value])


def is_ascending(values):
    """Whether values of one kind ascend, none of them twice."""
    return all([values[at] < values[at + 1] for at in range(len(values) - 1)])


def is_rows(value, many, n):
    """Whether value is an ascending tuple of rows of so many of n places."""
    if not isinstance(value, tuple) or not all([is_row(row, many, n) for row in value]):
        return False
    return is_ascending(value)


def is_told(value, table, n):
    """Whether value is the part of a STORE that tells the rows of this table."""
    name, many = table
    if not isinstance(value, tuple) or len(value) != 2:
        return False
    return value[0] == name and is_rows(value[1], many, n)


def is_store(value, tables, n):
    """Whether value is a STORE of these TABLES over n places."""
    if not isinstance(value, tuple) or len(value) != len(tables):
        return False
    return all([is_told(told, table, n) for told, table in zip(value, tables)])


def check_size(n):
    """Refuses what is no number of places."""
    if not is_integer(n, 1, MOST_PLACES):
        raise BadSize(n)


def check_place(place, n):
    """Refuses what is none of n places."""
    if not is_integer(place, 0, n - 1):
        raise BadPlace(place)


def check_store(store, tables, n):
    """Refuses what is no STORE of these TABLES over n places."""
    if not is_store(store, tables, n):
        raise BadStore(store)


def check_row(row, many, n):
    """Refuses what is no row of so many of n places."""
    if not is_row(row, many, n):
        raise BadRow(row)


def all_rows(n, many):
    """All rows of so many of n places, ascending."""
    rows = [()]
    for _ in range(many):
        rows = [row + (place,) for row in rows for place in range(n)]
    return rows
