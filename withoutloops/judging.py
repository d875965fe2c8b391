"""Judging: whether a keeper is right over a told number of places, and what its kept tables are worth."""

from withoutloops.books import booked
from withoutloops.doing import check_change
from withoutloops.errors import BadChange, BadPair, BadTable, NoWish
from withoutloops.keepers import check_keeper
from withoutloops.lots import States, many_lots, parting
from withoutloops.standings import Doer, Landscape, check_most
from withoutloops.values import check_size, is_integer


def landscape_of(keeper, n, most):
    """All STANDINGS that a keeper comes to."""
    check_most(most)
    return Landscape(Doer(keeper, n), most)


def are_changes(value, keeper, n):
    """Whether value is a tuple of changes, barred ones or not."""
    if not isinstance(value, tuple):
        return False
    for change in value:
        try:
            check_change(change, keeper.told, n)
        except BadChange:
            return False
    return True


def standings(keeper, n, most):
    """How many STANDINGS a keeper comes to."""
    check_keeper(keeper)
    check_size(n)
    return len(landscape_of(keeper, n, most).met)


def judged(keeper, n, most):
    """Whether a keeper is right: ("right", how many STANDINGS it comes to) or ("wrong", fewest changes)."""
    check_keeper(keeper)
    if not keeper.has_wish:
        raise NoWish(None)
    check_size(n)
    landscape = landscape_of(keeper, n, most)
    for number, standing in enumerate(landscape.met):
        if not landscape.doer.is_right(standing):
            return "wrong", landscape.changes_to(number)
    return "right", len(landscape.met)


def shows_judged(keeper, n, most, value):
    """Whether value is right as what judged tells."""
    word, told = judged(keeper, n, most)
    if not isinstance(value, tuple) or len(value) != 2 or not isinstance(value[0], str) or value[0] != word:
        return False
    if word == "right":
        return is_integer(value[1], told, told)
    if not are_changes(value[1], keeper, n) or len(value[1]) != len(told):
        return False
    doer = Doer(keeper, n)
    standing = doer.all_done(value[1])
    return standing is not None and not doer.is_right(standing)


def check_alike(one, other, n):
    """Refuses what is no Keeper, two of unlike told tables, and what is no number of places."""
    check_keeper(one)
    check_keeper(other)
    if one.told != other.told:
        raise BadPair((one.told, other.told))
    check_size(n)


def alike(one, other, n, most):
    """None if nothing parts two keepers at their beginnings, otherwise the fewest changes that do."""
    check_alike(one, other, n)
    landscapes = [landscape_of(keeper, n, most) for keeper in (one, other)]
    return parting(States(landscapes), 0, len(landscapes[0].met))


def shows_alike(one, other, n, most, value):
    """Whether value is right as what alike tells."""
    told = alike(one, other, n, most)
    if told is None or value is None:
        return told is None and value is None
    if not are_changes(value, one, n) or len(value) != len(told):
        return False
    return are_parted((Doer(one, n), Doer(other, n)), ((), ()), value)


def are_parted(doers, ahead, changes):
    """Whether changes, done by two behind those ahead of each, part what stands there, if fewer changes do not."""
    one, other = [doer.all_done(some + changes) for doer, some in zip(doers, ahead)]
    if one is None or other is None:
        # If one alone came to its end, it was the last change that was barred: fewer would part the two otherwise.
        return (one is None) != (other is None)
    return doers[0].answer_at(one) != doers[1].answer_at(other)


def parted(keeper, n, one, other, most):
    """None if nothing parts the STANDINGS behind one and behind other, otherwise the fewest changes that do."""
    books = [booked(keeper, n, changes) for changes in (one, other)]
    landscape = landscape_of(keeper, n, most)
    first, second = [landscape.numbers[(book.store, book.kept)] for book in books]
    return parting(States([landscape]), first, second)


def shows_parted(keeper, n, one, other, most, value):
    """Whether value is right as what parted tells."""
    told = parted(keeper, n, one, other, most)
    if told is None or value is None:
        return told is None and value is None
    if not are_changes(value, keeper, n) or len(value) != len(told):
        return False
    doer = Doer(keeper, n)
    return are_parted((doer, doer), (one, other), value)


def acts(keeper, n, most):
    """Into how many lots a keeper's STANDINGS fall, if two are in one lot just if nothing parts them."""
    check_keeper(keeper)
    check_size(n)
    return many_lots(States([landscape_of(keeper, n, most)]))


def check_road(keeper, n, name):
    """Refuses what is no Keeper, no number of places, or no kept table's name."""
    check_keeper(keeper)
    check_size(n)
    if not isinstance(name, str) or name not in dict(keeper.kept):
        raise BadTable(name)


def on_road(keeper, n, name, most):
    """None if told tables tell this kept one, otherwise two CHANGES that lead to one told STORE, and to unlike rows."""
    check_road(keeper, n, name)
    landscape = landscape_of(keeper, n, most)
    firsts = {}
    found = []
    for number, (store, kept) in enumerate(landscape.met):
        first, rows = firsts.setdefault(store, (number, dict(kept)[name]))
        if dict(kept)[name] != rows:
            found.append((first, number))
    if len(found) == 0:
        return None
    # What is come to later needs no fewer changes, so the first STANDING of a STORE is one of the best two.
    first, second = min(found, key=lambda two: landscape.far[two[0]] + landscape.far[two[1]])
    return landscape.changes_to(first), landscape.changes_to(second)


def shows_on_road(keeper, n, name, most, value):
    """Whether value is right as what on_road tells."""
    told = on_road(keeper, n, name, most)
    if told is None or value is None:
        return told is None and value is None
    if not isinstance(value, tuple) or len(value) != 2 or not all([are_changes(some, keeper, n) for some in value]):
        return False
    if len(value[0]) + len(value[1]) != len(told[0]) + len(told[1]):
        return False
    doer = Doer(keeper, n)
    one, other = [doer.all_done(some) for some in value]
    if one is None or other is None:
        return False
    return one[0] == other[0] and dict(one[1])[name] != dict(other[1])[name]


def needless(keeper, n, most):
    """The ascending tuple of the names of the kept tables that all other tables tell."""
    check_keeper(keeper)
    check_size(n)
    landscape = landscape_of(keeper, n, most)
    return tuple(sorted([name for name, _ in keeper.kept if is_told_by_others(landscape, name)]))


def is_told_by_others(landscape, name):
    """Whether no two STANDINGS are the same but for this kept table."""
    told = {}
    for store, kept in landscape.met:
        others = tuple([table for table in kept if table[0] != name])
        rows = dict(kept)[name]
        if told.setdefault((store, others), rows) != rows:
            return False
    return True
