"""Questions told anew: by other words, with few names, and where two of them part."""

from withoutloops.asks import Question, check_loopless, check_question
from withoutloops.engines import answered
from withoutloops.errors import BadMost, BadPair, Wide
from withoutloops.stores import AllStores, are_more_pairs
from withoutloops.values import all_rows, check_size, is_integer, is_row, is_store

GREATEST_MOST = 20000

# What a word becomes when the `not` ahead of it is pushed behind it.
DENIED = {"yes": "no", "no": "yes", "and": "or", "or": "and", "some": "every", "every": "some"}


def told_anew(question, words):
    """The Question with these words for its own."""
    return Question(question.head, " ".join(words), question.tables, question.changed)


def pushed(question):
    """The Question that is answered alike, in which `not` stands ahead of `same`, `less` and tables alone."""
    check_loopless(question)
    return told_anew(question, pushed_words(question.whole, False))


def pushed_words(part, is_denied):
    """The words of a part, or of the part with `not` ahead of it, with all `not` pushed inward."""
    if part.word == "not":
        return pushed_words(part.inner[0], not is_denied)
    if part.word not in DENIED:
        words = [part.word] + list(part.places)
        return ["not"] + words if is_denied else words
    words = [DENIED[part.word] if is_denied else part.word] + list(part.bound)
    for inner in part.inner:
        words = words + pushed_words(inner, is_denied)
    return words


def few_names(question):
    """The Question that is answered alike, with no more names than it is wide."""
    check_loopless(question)
    return told_anew(question, named_words(question, question.whole, {}))


def named_words(question, part, called):
    """The words of a part of the question, the names that are alive there called as called tells, or as before."""
    if len(part.bound) > 0:
        within = part.inner[0]
        taken = [called.get(name, name) for name in within.free if name not in part.bound]
        called = dict(called)
        called[part.bound[0]] = first_name(question, taken)
    words = [part.word] + [called.get(name, name) for name in part.bound + part.places]
    for inner in part.inner:
        words = words + named_words(question, inner, called)
    return words


def first_name(question, taken):
    """The first name that is not taken: of those of the head, then of a0, a1, .. that are none of the question's."""
    for name in question.head:
        if name not in taken:
            return name
    barred = list(taken) + list(question.head) + [name for name, _ in question.tables]
    number = 0
    while f"a{number}" in barred:
        number += 1
    return f"a{number}"


def check_most(question, n, most):
    """Refuses what is no limit, or one of less pairs of a STORE and a row than the question can be asked upon."""
    check_size(n)
    if not is_integer(most, 1, GREATEST_MOST):
        raise BadMost(most)
    if are_more_pairs(question.tables, n, question.changed, most):
        raise Wide(most)


def check_both(one, other, n, most):
    """Refuses what alike refuses."""
    check_question(one)
    check_question(other)
    if (one.head, one.tables, one.changed) != (other.head, other.tables, other.changed):
        raise BadPair((one.text, other.text))
    check_most(one, n, most)


def alike(one, other, n, most):
    """None if both are answered alike upon all STORES over n places, otherwise a (STORE, row) where they are not."""
    check_both(one, other, n, most)
    stores = AllStores([one, other], n)
    for row in all_rows(n, one.changed):
        told, others = stores.answers(one, row), stores.answers(other, row)
        for number, (first, second) in enumerate(zip(told, others)):
            if first != second:
                return stores.store_of(number), row
    return None


def shows_alike(one, other, n, most, value):
    """Whether value is right as what alike tells."""
    check_both(one, other, n, most)
    if value is None:
        return alike(one, other, n, most) is None
    if not isinstance(value, tuple) or len(value) != 2:
        return False
    store, row = value
    if not is_store(store, one.tables, n) or not is_row(row, one.changed, n):
        return False
    return answered(one, n, store, row) != answered(other, n, store, row)


def hangs_on(question, n, most):
    """The ascending tuple of the names of the tables of which one row more can make it answered otherwise."""
    check_question(question)
    check_most(question, n, most)
    stores = AllStores([question], n)
    answers = [stores.answers(question, row) for row in all_rows(n, question.changed)]
    found = {}
    for at, (name, _) in enumerate(stores.rows):
        if name not in found and any([counts_row(told, 1 << at) for told in answers]):
            found[name] = True
    return tuple(sorted(found))


def counts_row(told, bit):
    """Whether two stores are told unlike answers that are the same but for the row with this bit."""
    return any([told[number] != told[number | bit] for number in range(len(told)) if not number & bit])
