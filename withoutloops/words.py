"""Words: what machines read, and machines made of machines."""

from withoutloops.books import check_book
from withoutloops.errors import BadPair, BadState, BadWord, NotWords, Wide
from withoutloops.keepers import Keeper
from withoutloops.machines import Machine, check_machine, kinds_of, numbered
from withoutloops.values import check_place, check_size, is_integer
from withoutloops.wordtexts import word_text

MOST_KEPT_STATES = 3


def is_word(value, signs):
    """Whether value is a tuple of signs."""
    return isinstance(value, tuple) and all([isinstance(sign, str) and sign in signs for sign in value])


def reads(machine, word):
    """Whether the word leads from the machine's start to one of its ends."""
    check_machine(machine)
    told = Machine(machine)
    if not is_word(word, told.signs):
        raise BadWord(word)
    return told.state_behind(told.start, word) in told.ends


def word_keeper(machine):
    """The Keeper of whether the letters that stand are a word that the machine reads."""
    check_machine(machine)
    told = Machine(machine)
    if len(told.states) > MOST_KEPT_STATES:
        raise Wide(MOST_KEPT_STATES)
    return Keeper(word_text(told))


def check_words(machine, book):
    """Refuses what is no MACHINE, and what is no Book of its Keeper. Tells the Machine."""
    check_machine(machine)
    check_book(book)
    told = Machine(machine)
    if len(told.states) > MOST_KEPT_STATES or book.keeper.text != word_text(told):
        raise NotWords(book.keeper.text)
    return told


def letters_at(machine, book, places):
    """The word of the letters at these places, in their sequence."""
    return tuple([sign for place in places for sign in machine.signs if (place,) in book.table(sign)])


def word_of(machine, book):
    """The word of the letters that stand."""
    told = check_words(machine, book)
    return letters_at(told, book, tuple(range(book.n)))


def between(machine, book, x, y, state):
    """The state to which the letters between the places x and y lead from this one."""
    told = check_words(machine, book)
    check_place(x, book.n)
    check_place(y, book.n)
    if not is_integer(state, 0, len(told.states) - 1):
        raise BadState(state)
    return told.state_behind(state, letters_at(told, book, tuple(range(x + 1, y))))


def letters(machine, n, word):
    """The changes that put the signs of a word at the places 0, 1, .."""
    check_machine(machine)
    check_size(n)
    if not is_word(word, Machine(machine).signs) or len(word) > n:
        raise BadWord(word)
    return tuple([("put", sign, (place,)) for place, sign in enumerate(word)])


def check_pair(one, other):
    """Refuses what is no MACHINE, and two of them with unlike signs."""
    check_machine(one)
    check_machine(other)
    if Machine(one).signs != Machine(other).signs:
        raise BadPair((one, other))


def paired(one, other, least_ends):
    """The MACHINE of pairs of states, its ends the pairs that have at least so many ends."""
    first, second = Machine(one), Machine(other)

    def lead(pair, sign):
        return first.steps[pair[0]][sign], second.steps[pair[1]][sign]

    def is_end(pair):
        return [pair[0] in first.ends, pair[1] in second.ends].count(True) >= least_ends

    return numbered((first.start, second.start), first.signs, lead, is_end)


def both(one, other):
    """The MACHINE that takes the words that both machines take."""
    check_pair(one, other)
    return paired(one, other, 2)


def either(one, other):
    """The MACHINE that takes the words that at least one of both machines takes."""
    check_pair(one, other)
    return paired(one, other, 1)


def other(machine):
    """The MACHINE that takes just the words that the machine does not take."""
    check_machine(machine)
    told = Machine(machine)
    ends = tuple([state for state in told.states if state not in told.ends])
    return len(told.states), told.start, ends, told.signs, told.steps


def turned(machine):
    """The MACHINE that takes the words that the machine takes read backward."""
    check_machine(machine)
    told = Machine(machine)

    def lead(lot, sign):
        return tuple([state for state in told.states if told.steps[state][sign] in lot])

    def is_end(lot):
        return told.start in lot

    return numbered(told.ends, told.signs, lead, is_end)


def least(machine):
    """Of all MACHINES with its signs that take just the words that the machine takes, the one with fewest states."""
    check_machine(machine)
    told = Machine(machine)
    kinds = kinds_of(told)

    def lead(kind, sign):
        return kinds[told.steps[kinds.index(kind)][sign]]

    def is_end(kind):
        return kinds.index(kind) in told.ends

    return numbered(kinds[told.start], told.signs, lead, is_end)
