"""Webs of ties: which places are joined, the forest that joins them, and the two sides of a web."""

from withoutloops.books import check_book
from withoutloops.errors import BadRows, NoRing, NotTree, NotWeb, NoWay, OddRing
from withoutloops.keepers import Keeper
from withoutloops.values import check_place, check_size, is_row, is_rows
from withoutloops.walks import are_steps, both_ways, reached, way_to
from withoutloops.webtexts import least_text, side_text, web_text


def web_keeper():
    """The Keeper of a forest that spans a web."""
    return Keeper(web_text())


def side_keeper():
    """The Keeper of a forest that spans a web, and of whether the web has two sides."""
    return Keeper(side_text())


def least_keeper():
    """The Keeper of the least forest that spans a web."""
    return Keeper(least_text())


def check_web(book, places):
    """Refuses what is no Book of one of the three Keepers, and what is none of its places."""
    check_book(book)
    if book.keeper.text not in (web_text(), side_text(), least_text()):
        raise NotWeb(book.keeper.text)
    for place in places:
        check_place(place, book.n)


def forest(book):
    """The ascending tuple of the ties of the forest."""
    check_web(book, ())
    return book.table("tree")


def path(book, x, y):
    """The places on the forest's way from x to y, both with it."""
    check_web(book, (x, y))
    ahead = reached(both_ways(book.table("tree")), x)
    if y not in ahead:
        raise NoWay((x, y))
    return way_to(ahead, y)


def joined_to(ties, x):
    """The ascending tuple of all places that ties join to x."""
    return tuple(sorted(reached(both_ways(ties), x)))


def parts_of(ties, n):
    """All such tuples over n places, each once, by their first places."""
    found = [joined_to(ties, place) for place in range(n)]
    return tuple([part for place, part in enumerate(found) if part[0] == place])


def part_of(book, x):
    """The ascending tuple of all places joined to x."""
    check_web(book, (x,))
    return joined_to(book.table("tie"), x)


def parts(book):
    """All tuples of places joined, each once, by their first places."""
    check_web(book, ())
    return parts_of(book.table("tie"), book.n)


def are_ties(value, n):
    """Whether value is an ascending tuple of ties of n places."""
    return is_rows(value, 2, n) and all([one < other for one, other in value])


def is_forest(n, rows, value):
    """Whether value is an ascending tuple of some of the rows, without rings, that join all that the rows join."""
    check_size(n)
    if not are_ties(rows, n):
        raise BadRows(rows)
    if not are_ties(value, n) or not all([tie in rows for tie in value]):
        return False
    some = parts_of(value, n)
    # Each tie that makes no ring joins two parts, so a forest has one part less for each of its ties.
    return some == parts_of(rows, n) and len(some) == n - len(value)


def turning_steps(book):
    """The steps along the book's ties, by which each place is left even and come to odd, or the other way round."""
    steps = both_ways(book.table("tie"))
    return [((one, odd), (other, 1 - odd)) for one, other in steps for odd in (0, 1)]


def two_sides(book):
    """Two ascending tuples of all places, each tie leading from the one to the other."""
    check_web(book, ())
    steps = turning_steps(book)
    sides = ([], [])
    for part in parts_of(book.table("tie"), book.n):
        ahead = reached(steps, (part[0], 0))
        if (part[0], 1) in ahead:
            raise OddRing(None)
        for place, odd in ahead:
            sides[odd].append(place)
    return tuple(sorted(sides[0])), tuple(sorted(sides[1]))


def odd_ring(book):
    """Places in sequence, the first one come back to by an odd number of ties."""
    check_web(book, ())
    steps = turning_steps(book)
    for place in range(book.n):
        ahead = reached(steps, (place, 0))
        if (place, 1) in ahead:
            return tuple([step[0] for step in way_to(ahead, (place, 1))])
    raise NoRing(None)


def shows_odd_ring(book, value):
    """Whether value is right as what odd_ring tells."""
    odd_ring(book)
    if not isinstance(value, tuple) or len(value) < 4 or len(value) % 2 == 1:
        return False
    if not is_row(value, len(value), book.n) or value[0] != value[-1]:
        return False
    return are_steps(value, both_ways(book.table("tie")))


def joins_again(book, p, q):
    """The tie that comes into the forest when this one of it is struck, None if none does."""
    check_web(book, ())
    tree = book.table("tree")
    if not is_row((p, q), 2, book.n) or (p, q) not in tree:
        raise NotTree((p, q))
    left = tuple([tie for tie in tree if tie != (p, q)])
    side = joined_to(left, p)
    for one, other in book.table("tie"):
        if (one, other) != (p, q) and (one in side) != (other in side):
            return one, other
    return None
