"""What the tests measure the told keepers by: going through rows, plainly."""

import itertools
import pathlib

TEXTS = pathlib.Path(__file__).parent / 'texts'


def lines_of(name):
    """The lines that the document prints for this keeper."""
    return (TEXTS / f'{name}.txt').read_text().rstrip('\n').split('\n')


def come_to(rows, place, n):
    """All places to which one comes from a place, by so many steps as there are places."""
    met = {place}
    for _ in range(n):
        met |= {other for one, other in rows if one in met}
    return met


def has_ring(rows, n):
    return any(one in come_to(rows, other, n) for one, other in rows)


def both_ways(ties):
    return set(ties) | {(other, one) for one, other in ties}


def joined(ties, one, n):
    return come_to(both_ways(ties), one, n)


def parts_of(ties, n):
    return tuple(sorted({tuple(sorted(joined(ties, place, n))) for place in range(n)}))


def is_forest(ties, tree, n):
    """Whether tree is some of the ties, without rings, that joins what they join."""
    if not set(tree) <= set(ties) or parts_of(ties, n) != parts_of(tree, n):
        return False
    return all(other not in joined(set(tree) - {(one, other)}, one, n) for one, other in tree)


def way_in(tree, one, other, n):
    """The only way in a forest, None if there is none."""
    steps = both_ways(tree)
    for many in range(n):
        for between in itertools.permutations(range(n), many + 1):
            way = between if between[0] == one and between[-1] == other else None
            if way and all(pair in steps for pair in zip(way, way[1:])):
                return way
    return None


def least_forest(ties, n):
    """The ties that lesser ties alone do not join, as they ascend."""
    tree = []
    for one, other in sorted(ties):
        if other not in joined(tree, one, n):
            tree.append((one, other))
    return tuple(tree)


def has_sides(ties, n):
    """Whether the places have two sides, each tie leading from the one to the other: by trying all of them."""
    return any(
        all(sides[one] != sides[other] for one, other in ties) for sides in itertools.product((0, 1), repeat=n)
    )


def all_ties(n):
    return [(one, other) for one in range(n) for other in range(one + 1, n)]
