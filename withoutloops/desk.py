"""A desk: a bench to which lines are said."""

from withoutloops.books import is_right
from withoutloops.errors import BadTask
from withoutloops.journals import read_deed, read_journal


def spelt_row(row):
    """A row in one line."""
    return " ".join([str(place) for place in row]) if len(row) > 0 else "yes"


def spelt_rows(rows):
    """Rows in one line."""
    return " ; ".join([spelt_row(row) for row in rows]) if len(rows) > 0 else "none"


class Desk:
    """Does what lines tell at the bench of a journal, and answers what they ask."""

    def __init__(self, text):
        self.bench = read_journal(text)

    def say(self, line):
        """Does what a line tells: its answer."""
        if not isinstance(line, str) or "\n" in line:
            raise BadTask(line)
        deed = read_deed(line)
        if deed is not None:
            word, name, row = deed
            return "done" if self.bench.do_deed(word, name, row) else "idle"
        words = line.split(" ")
        if len(words) == 2 and words[0] == "table" and words[1] != "":
            return spelt_rows(self.bench.book_now().table(words[1]))
        return self.said(line)

    def said(self, line):
        """The answer to a line of one word."""
        if line == "undo":
            self.bench.undo()
            return "done"
        if line == "redo":
            self.bench.redo()
            return "done"
        if line == "answer":
            return spelt_rows(self.bench.book_now().answer)
        if line == "wish":
            return spelt_rows(self.bench.book_now().wished())
        if line == "right":
            return "yes" if is_right(self.bench.book_now()) else "no"
        raise BadTask(line)
