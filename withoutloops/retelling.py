"""Retelling: the lines of keepers told anew, their tables and their names of places called otherwise."""

from withoutloops.parts import SHAPES
from withoutloops.values import CHANGED_NAMES


def fresh_names(letter, many, taken):
    """The first so many of the names of this letter and a number that are not taken."""
    names = [f"{letter}{number}" for number in range(many + len(taken))]
    return [name for name in names if name not in taken][:many]


def place_names(question):
    """The names of places that the question's head has, in sequence, then those that its words bind, each once."""
    tables = [name for name, _ in question.tables]
    found = {name: True for name in question.head}
    for word in question.text.split(" "):
        if word not in SHAPES and word not in tables and word not in CHANGED_NAMES:
            found[word] = True
    return list(found)


def spelt(part, called, leads):
    """The words of a part, tables and places called as called tells.

    In the place of the words of a table that is led stands the text of the Question that leads it.
    """
    places = [called.get(name, name) for name in part.places]
    if part.word in leads:
        question = leads[part.word]
        return spelt(question.whole, dict(zip(question.head, places)), {})
    words = [called.get(part.word, part.word)] + places + [called.get(name, name) for name in part.bound]
    for inner in part.inner:
        words.extend(spelt(inner, called, leads))
    return words


class Retold:
    """A question told anew: its head, and its words."""

    def __init__(self, head, words):
        self.head = head
        self.words = words

    def line(self, begin):
        """The line that begins with these words, and tells the question behind them."""
        return " ".join(begin + self.head + ["is"] + self.words)


class Reteller:
    """Tells questions anew, no name of a place being one that is taken. No table may be called x and a number."""

    def __init__(self, taken):
        self.taken = taken

    def head_names(self, many):
        """How the names of each head of so many places are called."""
        return fresh_names("x", many, self.taken)

    def retold(self, question, called, leads):
        """The question told anew. The names of its head are called as those of any other one."""
        names = place_names(question)
        known = dict(called)
        for name, fresh in zip(names, self.head_names(len(names))):
            known[name] = fresh
        return Retold([known[name] for name in question.head], spelt(question.whole, known, leads))

    def line(self, begin, question, called):
        """The line that begins with these words, and tells the question behind them."""
        return self.retold(question, called, {}).line(begin)

    def first_lines(self, plan, called):
        """The lines `first` of a plan, its tables called otherwise."""
        found = []
        for name, _ in plan.kept:
            if name in plan.firsts:
                found.append(self.line(["first", called[name]], plan.firsts[name], called))
        return found


def table_lines(word, tables):
    """The lines `told` or `kept` of tables."""
    return [f"{word} {name} {many}" for name, many in tables]
