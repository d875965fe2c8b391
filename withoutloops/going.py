"""Webs without rings: where one comes to along rows."""

from withoutloops.books import check_book
from withoutloops.errors import IsWay, NotBarred, NotGoing, NoWay
from withoutloops.keepers import Keeper
from withoutloops.values import check_place, is_ascending, is_row
from withoutloops.walks import are_steps, reached, way_to

GOING = (
    "told row 2",
    "kept go 2",
    "first go x y is same x y",
    "put row",
    "bar go q p",
    "set go x y is or go x y and go x p go q y",
    "strike row",
    "let turn x y is some u some v and and go x u go u p and and row u v not and same u p same v q "
    "and not go v p go v y",
    "set go x y is and go x y or not and go x p go q y turn x y",
    "answer x y is go x y",
    "wish x y is reach x y u v row u v",
)


def going_keeper():
    """The Keeper of where one comes to along rows that make no ring."""
    return Keeper("\n".join(GOING))


def check_going(book, places):
    """Refuses what is no Book of the Keeper of ways, and what is none of its places."""
    check_book(book)
    if book.keeper.text != "\n".join(GOING):
        raise NotGoing(book.keeper.text)
    for place in places:
        check_place(place, book.n)


def come_from(book, x, y):
    """What one comes to from x, as reached tells it. Refuses two places if one does not come from x to y."""
    check_going(book, (x, y))
    ahead = reached(book.table("row"), x)
    if y not in ahead:
        raise NoWay((x, y))
    return ahead


def is_way(book, x, y, value):
    """Whether value is a way from x to y."""
    if not isinstance(value, tuple) or len(value) == 0 or not is_row(value, len(value), book.n):
        return False
    return value[0] == x and value[-1] == y and are_steps(value, book.table("row"))


def way(book, x, y):
    """A way from x to y."""
    return way_to(come_from(book, x, y), y)


def shows_way(book, x, y, value):
    """Whether value is right as what way tells."""
    come_from(book, x, y)
    return is_way(book, x, y, value)


def parted_from(book, x, y):
    """What one comes to from x, as reached tells it. Refuses two places if one comes from x to y."""
    check_going(book, (x, y))
    ahead = reached(book.table("row"), x)
    if y in ahead:
        raise IsWay((x, y))
    return ahead


def cut(book, x, y):
    """An ascending tuple of places, x among them and y not, that no row leaves."""
    return tuple(sorted(parted_from(book, x, y)))


def shows_cut(book, x, y, value):
    """Whether value is right as what cut tells."""
    parted_from(book, x, y)
    if not isinstance(value, tuple) or not is_row(value, len(value), book.n) or not is_ascending(value):
        return False
    if x not in value or y in value:
        return False
    return all([other in value for one, other in book.table("row") if one in value])


def in_sequence(book):
    """A tuple of all places in which each row leads to a later one."""
    check_going(book, ())
    found = []
    while len(found) < book.n:
        later = [other for one, other in book.table("row") if one not in found]
        found.append(min([place for place in range(book.n) if place not in found and place not in later]))
    return tuple(found)


def shows_in_sequence(book, value):
    """Whether value is right as what in_sequence tells."""
    check_going(book, ())
    if not is_row(value, book.n, book.n) or sorted(value) != list(range(book.n)):
        return False
    return all([value.index(one) < value.index(other) for one, other in book.table("row")])


def closed_by(book, p, q):
    """What one comes to from q, as reached tells it. Refuses a row from p to q that would close no ring."""
    check_going(book, (p, q))
    ahead = reached(book.table("row"), q)
    if p not in ahead:
        raise NotBarred((p, q))
    return ahead


def ring(book, p, q):
    """A way from q to p, which a row from p to q would make a ring."""
    return way_to(closed_by(book, p, q), p)


def shows_ring(book, p, q, value):
    """Whether value is right as what ring tells."""
    closed_by(book, p, q)
    return is_way(book, q, p, value)


def meets(book, x, y):
    """The ascending tuple of the nearest places to which one comes from both x and y."""
    check_going(book, (x, y))
    rows = book.table("row")
    from_both = [place for place in sorted(reached(rows, x)) if place in reached(rows, y)]
    behind = [other for place in from_both for other in reached(rows, place) if other != place]
    return tuple([place for place in from_both if place not in behind])
