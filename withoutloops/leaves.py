"""Leaves: the rows for which the questions hold within which there is no other question."""

from withoutloops.values import all_rows


def plain_leaves(n):
    """By their words, the rows for which the leaves hold that ask no table, over n places."""
    pairs = all_rows(n, 2)
    return {
        "yes": ((),),
        "no": (),
        "same": tuple([(one, other) for one, other in pairs if one == other]),
        "less": tuple([(one, other) for one, other in pairs if one < other]),
    }


def leaf_rows(n, store):
    """By their words, the rows for which all leaves hold, over n places."""
    rows = plain_leaves(n)
    for name, standing in store:
        rows[name] = standing
    return rows
