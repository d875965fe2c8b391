"""Engines: what a question answers upon a store, and what it takes to work this out."""

from withoutloops.asks import check_loopless, check_question
from withoutloops.joins import joined_rows
from withoutloops.packed import Grounds
from withoutloops.values import check_row, check_size, check_store


def check_asked(question, n, store, row):
    """Refuses what a Question cannot be asked upon."""
    check_size(n)
    check_store(store, question.tables, n)
    check_row(row, question.changed, n)


def answered(question, n, store, row):
    """The ascending tuple of all rows of places of the question's head for which it holds."""
    check_question(question)
    check_asked(question, n, store, row)
    grounds = Grounds(n)
    return grounds.rows_that_hold(question, grounds.leaves_upon(store), row)


def looks(question, n):
    """How many looks it takes to go through all places without ever stopping early."""
    check_loopless(question)
    check_size(n)
    times = 1
    for _ in question.head:
        times = times * n
    return looks_within(question.whole, n, times)


def looks_within(part, n, times):
    """How many looks it takes to work a part out so many times."""
    if part.word in ("yes", "no"):
        return 0
    if len(part.inner) == 0:
        return times
    if part.word in ("some", "every"):
        times = times * n
    return sum([looks_within(inner, n, times) for inner in part.inner])


def joined(question, n, store, row):
    """What answered tells, and how many rows are held when each part of the question has a table of its own."""
    check_loopless(question)
    check_asked(question, n, store, row)
    return joined_rows(question, n, store, row)
