"""Far behind: what stands behind more changes than could be done one by one."""

from withoutloops.keepers import check_keeper
from withoutloops.repeats import Traveller, check_history
from withoutloops.standings import check_most
from withoutloops.values import check_size


def check_all(keeper, n, history):
    """The history as a Repeat of one time. Refuses what is no Keeper, no number of places, or no HISTORY."""
    check_keeper(keeper)
    check_size(n)
    return check_history(keeper, n, history)


def many(keeper, n, history):
    """How many changes a history tells."""
    return check_all(keeper, n, history).far


def behind(keeper, n, history, most):
    """The STANDING behind a history."""
    repeat = check_all(keeper, n, history)
    check_most(most)
    traveller = Traveller(keeper, n, most)
    return traveller.met[traveller.behind_parts(traveller.first_number(), repeat.parts, 0)]


def answer_behind(keeper, n, history, most):
    """What the keeper's answer tells behind a history."""
    repeat = check_all(keeper, n, history)
    check_most(most)
    traveller = Traveller(keeper, n, most)
    number = traveller.behind_parts(traveller.first_number(), repeat.parts, 0)
    return traveller.doer.answer_at(traveller.met[number])


def again_after(keeper, n, history, most):
    """The least (ahead, round): the history done ahead times leads where it leads if done round times more."""
    repeat = check_all(keeper, n, history)
    check_most(most)
    return Traveller(keeper, n, most).again_after(repeat)
