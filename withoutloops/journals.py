"""Journals: the text of a bench, by which the same bench is made again."""

from withoutloops.benches import Bench
from withoutloops.errors import BadJournal, BadKeeper, BadRow, BadSize, BadTable, Barred
from withoutloops.keepers import Keeper
from withoutloops.values import FIGURES

MOST_FIGURES = 900


def journal(bench):
    """The lines of the text of which the bench was made, of how many places it has, and of its deeds."""
    deeds = [" ".join([word, name] + [str(place) for place in row]) for word, name, row in bench.changes]
    return "\n".join([bench.keeper.text, f"size {bench.n}", "deeds"] + deeds)


def is_written_integer(word):
    """Whether a word is an integer as Python writes it."""
    figures = word[1:] if word.startswith("-") else word
    if not 1 <= len(figures) <= MOST_FIGURES or not all([sign in FIGURES for sign in figures]):
        return False
    return word == "0" or figures[0] != "0"


def read_size(line, number):
    """The integer that is told by the line of size, which is the one with this number."""
    words = line.split(" ")
    if len(words) != 2 or words[0] != "size" or not is_written_integer(words[1]):
        raise BadJournal(number)
    return int(words[1])


def read_deed(line):
    """(word, name, row) of a line of a deed, None if it has no such form."""
    words = line.split(" ")
    if len(words) < 2 or words[0] not in ("put", "strike") or words[1] == "":
        return None
    if not all([is_written_integer(word) for word in words[2:]]):
        return None
    return words[0], words[1], tuple([int(word) for word in words[2:]])


def bench_of(lines, many):
    """The bench that is made of so many lines of a Keeper's text, and of the line of size behind them."""
    text = "\n".join(lines[:many])
    try:
        Keeper(text)
    except BadKeeper as error:
        raise BadJournal(error.value) from None
    try:
        return Bench(text, read_size(lines[many], many + 1))
    except BadSize:
        raise BadJournal(many + 1) from None


def read_journal(text):
    """The bench on which was done what a journal tells."""
    if not isinstance(text, str):
        raise BadJournal(0)
    lines = text.split("\n")
    if "deeds" not in lines:
        raise BadJournal(len(lines) + 1)
    end = lines.index("deeds")
    if end < 2:
        raise BadJournal(end + 1)
    bench = bench_of(lines, end - 1)
    for number, line in enumerate(lines[end + 1:], start=end + 2):
        deed = read_deed(line)
        if deed is None:
            raise BadJournal(number)
        word, name, row = deed
        try:
            bench.do_deed(word, name, row)
        except (BadTable, BadRow, Barred):
            raise BadJournal(number) from None
    return bench
