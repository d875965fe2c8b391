"""Carrying: tables whose rows are led by the rows of other tables, and which of them a change turns.

Whether a row is led is asked without going through places: it hangs on the places of this row alone. So what can
happen at all happens with two places, and a change that turns a row turns none that lacks one of its places.
"""

from withoutloops.asks import Question
from withoutloops.doing import check_change, is_idle, told_behind
from withoutloops.errors import BadCarrying, BadHead, BadMost, BadQuestion, BadTables, Bounded, Unbounded
from withoutloops.packed import Grounds
from withoutloops.values import all_rows, are_unlike_names, check_size, check_store, is_integer, is_tables

MOST_SOURCES = 2
MOST_IN_SOURCE = 2
MOST_LED = 3
MOST_IN_HEAD = 2
MOST_LEAVES = 8
MOST_WORDS = 30
GREATEST_MANY = 3

# How many places are enough to see all that a change can turn.
ENOUGH = 2
# How many places there are where one of them stands four times for the one that a change lacks.
FAR = 5


class Turning:
    """What a change turns, upon a STORE: the rows that are led ahead of it alone, and behind it alone."""

    def __init__(self, store, change, strikes, puts):
        self.store = store
        self.change = change
        self.strikes = strikes
        self.puts = puts
        self.many = len(strikes) + len(puts)


def are_sources(value):
    """Whether value is one or two tables of none to two places."""
    if not is_tables(value) or not 1 <= len(value) <= MOST_SOURCES:
        return False
    return all([many <= MOST_IN_SOURCE for _, many in value])


def are_led(value):
    """Whether value is one to three of (name, anything, anything), the names unlike."""
    if not isinstance(value, tuple) or not 1 <= len(value) <= MOST_LED:
        return False
    if not all([isinstance(led, tuple) and len(led) == 3 for led in value]):
        return False
    return are_unlike_names([led[0] for led in value])


def is_leading(question):
    """Whether rows may be led by the question."""
    words = question.text.split(" ")
    names = [name for name, _ in question.tables]
    if len(question.head) > MOST_IN_HEAD or len(words) > MOST_WORDS:
        return False
    if len([word for word in words if word in names]) > MOST_LEAVES:
        return False
    if any([word in words for word in ("some", "every", "reach")]):
        return False
    nothing = nothing_in(question.tables)
    return led_rows(Grounds(ENOUGH), [("led", question)], nothing) == (("led", ()),)


def nothing_in(tables):
    """The STORE in which no row stands."""
    return tuple([(name, ()) for name, _ in tables])


def leading_questions(carrying):
    """What a CARRYING tells: the pairs of a led table's name and the Question by which its rows are led."""
    if not isinstance(carrying, tuple) or len(carrying) != 2:
        raise BadCarrying(carrying)
    sources, rows = carrying
    if not are_sources(sources) or not are_led(rows):
        raise BadCarrying(carrying)
    found = []
    for name, head, text in rows:
        try:
            question = Question(head, text, sources, 0)
        except (BadHead, BadTables, BadQuestion):
            raise BadCarrying(carrying) from None
        if not is_leading(question):
            raise BadCarrying(carrying)
        found.append((name, question))
    return found


def led_rows(grounds, questions, store):
    """For each pair of a name and a Question, the name and the rows that are led upon the STORE."""
    leaves = grounds.leaves_upon(store)
    return tuple([(name, grounds.rows_that_hold(question, leaves, ())) for name, question in questions])


def alone(one, other):
    """The ascending tuple of (name, row) of the rows that stand in one STORE alone, not in the other one."""
    found = []
    for (name, rows), (_, others) in zip(one, other):
        found.extend([(name, row) for row in rows if row not in others])
    return tuple(sorted(found))


def turning_from(led, store, change, behind):
    """The Turning by a change upon a STORE, behind which the other one stands; led tells by a STORE what is led."""
    ahead, afterwards = led[store], led[behind]
    return Turning(store, change, alone(ahead, afterwards), alone(afterwards, ahead))


def chosen(rows):
    """All ascending tuples of some of the rows."""
    found = [()]
    for row in rows:
        found = found + [some + (row,) for some in found]
    return found


def all_stores(tables, n):
    """All STORES of the tables over n places."""
    found = [()]
    for name, many in tables:
        found = [store + ((name, rows),) for store in found for rows in chosen(all_rows(n, many))]
    return found


def all_turnings(sources, questions):
    """What each put that is not idle turns, upon each STORE of the sources over two places. (Strikes undo puts.)"""
    grounds = Grounds(ENOUGH)
    led = {store: led_rows(grounds, questions, store) for store in all_stores(sources, ENOUGH)}
    changes = [("put", name, row) for name, many in sources for row in all_rows(ENOUGH, many)]
    found = []
    for store in led:
        for change in [change for change in changes if not is_idle(store, change)]:
            found.append(turning_from(led, store, change, told_behind(store, change)))
    return found


def strangers(turning):
    """The places of the rows that are turned that are none of the changed row."""
    turned = turning.strikes + turning.puts
    return [place for _, row in turned for place in row if place not in turning.change[2]]


def turnings_of(carrying):
    """What each put turns that is not idle, upon each STORE of a CARRYING's sources over two places."""
    questions = leading_questions(carrying)
    return all_turnings(carrying[0], questions)


def greatest(turnings):
    """The greatest number of rows that one of these changes turns, None if there is no greatest one."""
    if any([strangers(turning) for turning in turnings]):
        return None
    return max([turning.many for turning in turnings])


def led_store(carrying, n, store):
    """The STORE of the rows that are led upon a STORE of the sources."""
    questions = leading_questions(carrying)
    check_size(n)
    check_store(store, carrying[0], n)
    return led_rows(Grounds(n), questions, store)


def turned_rows(carrying, n, store, change):
    """The rows that a change turns: (strikes, puts), those led ahead of it alone, and those led behind it alone."""
    ahead = led_store(carrying, n, store)
    check_change(change, carrying[0], n)
    if is_idle(store, change):
        return (), ()
    behind = led_store(carrying, n, told_behind(store, change))
    return alone(ahead, behind), alone(behind, ahead)


def bound_of(carrying):
    """The greatest number of rows that a change turns, whatever stands; None if there is no greatest one."""
    return greatest(turnings_of(carrying))


def most_turned(carrying):
    """A number of places, a STORE and a change that turns as many rows as a change can."""
    turnings = turnings_of(carrying)
    bound = greatest(turnings)
    if bound is None:
        raise Unbounded(None)
    found = [turning for turning in turnings if turning.many == bound]
    return ENOUGH, found[0].store, found[0].change


def far_turned(carrying, many):
    """A number of places, a STORE and a change that turns more than many rows."""
    turnings = turnings_of(carrying)
    bound = greatest(turnings)
    if bound is not None:
        raise Bounded(bound)
    if not is_integer(many, 0, GREATEST_MANY):
        raise BadMost(many)
    found = [turning for turning in turnings if strangers(turning)]
    return spread(found[0], strangers(found[0])[0])


def spread(turning, place):
    """The Turning's STORE and change with four places, in sequence, for this one, and one for the other one."""
    others = (1, 2, 3, 4) if place == 1 else (0, 1, 2, 3)
    last = 0 if place == 1 else FAR - 1
    store = []
    for name, rows in turning.store:
        found = [put_for(row, place, other, last) for row in rows for other in others]
        store.append((name, tuple(sorted(set(found)))))
    word, name, row = turning.change
    return FAR, tuple(store), (word, name, put_for(row, place, place, last))


def put_for(row, place, other, last):
    """The row with other put for a place, and last for all others."""
    return tuple([other if one == place else last for one in row])
