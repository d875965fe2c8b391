"""The texts of carried keepers: at each change of a source, the rows that it turns are told one behind another.

Each row that may be turned is a step of its own, that is taken if this row is turned. It asks the tables as the step
ahead of it left them: what a step makes of a table is a let, and the last one is what a kept table is set to.
"""

from withoutloops.retelling import Reteller, Retold, table_lines
from withoutloops.values import CHANGED_NAMES


class Step:
    """A row that may be turned: whether it goes or comes, its table, and the names of its places."""

    def __init__(self, word, name, places):
        self.word = word
        self.name = name
        self.places = [CHANGED_NAMES[place] for place in places]


def numbered_places(row, changed):
    """The places of a turned row, each told by where it stands first in the changed row."""
    if len(row) == 2 and len(changed) == 2 and changed[0] == changed[1]:
        # This row is the one that the first and the second changed place tell, if they are the same.
        return 0, 1
    return tuple([changed.index(place) for place in row])


def numbered_rows(turned, changed):
    """Turned rows, their places told by where they stand in the changed row."""
    return [(table, numbered_places(row, changed)) for table, row in turned]


def steps_of(turnings, source, word, told):
    """The steps that some put or strike of a source takes, in the sequence in which they are told."""
    goes, comes = [], []
    for turning in turnings:
        if turning.change[1] == source:
            goes.extend(numbered_rows(turning.strikes, turning.change[2]))
            comes.extend(numbered_rows(turning.puts, turning.change[2]))
    # A strike turns what the put turned that it takes back, the other way round.
    lots = (goes, comes) if word == "put" else (comes, goes)
    found = []
    for step_word, lot in zip(("strike", "put"), lots):
        for name, _ in told:
            found.extend([Step(step_word, name, row[1]) for row in sorted(set(lot)) if row[0] == name])
    return found


def same_words(names, places):
    """The words that tell that each name is that of the place beside it."""
    pairs = [["same", name, place] for name, place in zip(names, places)]
    if len(pairs) == 0:
        return ["yes"]
    return pairs[0] if len(pairs) == 1 else ["and"] + pairs[0] + pairs[1]


class Section:
    """Tells the section of a source and a word: its lines, and which lets tell the tables by now."""

    def __init__(self, plan, reteller, source, word):
        self.plan = plan
        self.reteller = reteller
        self.source = source
        self.word = word
        self.lines = [f"{word} {source[0]}"]
        self.many_lets = 0
        self.called = {name: name for name, _ in plan.kept}
        self.ahead = {}
        self.behind = {}

    def let(self, retold):
        """Tells a let line: the name of its table."""
        name = f"l{self.many_lets}"
        while name in self.reteller.taken:
            self.many_lets += 1
            name = f"l{self.many_lets}"
        self.many_lets += 1
        self.lines.append(retold.line(["let", name]))
        return name

    def changed_table(self, table, word, goes_so, places):
        """The let that tells a table, told as (name, how many places), behind a put or strike of this row.

        goes_so are words ahead of what tells the row: the row comes or goes just if all of it holds.
        """
        names = self.reteller.head_names(table[1])
        standing = [table[0]] + names
        row = goes_so + same_words(names, places)
        words = ["or"] + standing + row if word == "put" else ["and"] + standing + ["not"] + row
        return self.let(Retold(names, words))

    def lead(self, questions):
        """Tells the led tables as they stand ahead of the change, and behind it."""
        source = self.changed_table(self.source, self.word, [], CHANGED_NAMES[:self.source[1]])
        for name, question in questions:
            self.ahead[name] = self.let(self.reteller.retold(question, {}, {}))
            self.behind[name] = self.let(self.reteller.retold(question, {self.source[0]: source}, {}))
            self.called[name] = self.ahead[name]

    def turned(self, step):
        """The let that tells whether the row of a step is turned, and not by a step ahead of it."""
        one, other = self.ahead[step.name], self.behind[step.name]
        if step.word == "put":
            one, other = other, one
        words = ["and", one] + step.places + ["not", other] + step.places
        if step.places == ["q", "p"]:
            words = ["and", "not", "same", "p", "q"] + words
        return self.let(Retold([], words))

    def take(self, step):
        """Tells what a step makes of all tables, and what bars it."""
        turned = self.turned(step)
        called = dict(self.called)
        for name, place in zip(CHANGED_NAMES, step.places):
            called[name] = place
        fresh = {}
        for line in self.plan.sections.get((step.word, step.name), []):
            retold = self.reteller.retold(line.question, called, {})
            if line.word == "bar":
                self.lines.append(" ".join(["bar", "and", turned] + retold.words))
            elif line.word == "let":
                called[line.name] = self.let(retold)
            else:
                otherwise = ["and", "not", turned, self.called[line.name]] + retold.head
                fresh[line.name] = self.let(Retold(retold.head, ["or", "and", turned] + retold.words + otherwise))
        self.called.update(fresh)
        table = (self.called[step.name], len(step.places))
        self.called[step.name] = self.changed_table(table, step.word, ["and", turned], step.places)

    def end(self):
        """Tells what the kept tables are set to."""
        for name, many in self.plan.kept:
            if self.called[name] != name:
                names = self.reteller.head_names(many)
                self.lines.append(Retold(names, [self.called[name]] + names).line(["set", name]))


def section_lines(plan, reteller, source, word, questions, turnings):
    """The lines of the section of a source and a word, none if such a change turns nothing."""
    steps = steps_of(turnings, source[0], word, plan.told)
    if len(steps) == 0:
        return []
    section = Section(plan, reteller, source, word)
    section.lead(questions)
    for step in steps:
        section.take(step)
    section.end()
    return section.lines


def carried_text(plan, sources, questions, turnings):
    """The text of the Keeper carried over to sources, by the questions that lead its told tables.

    turnings are what changes can turn.
    """
    reteller = Reteller([name for name, _ in sources + plan.kept])
    lines = table_lines("told", sources) + table_lines("kept", plan.kept)
    lines.extend(reteller.first_lines(plan, {name: name for name, _ in plan.kept}))
    for source in sources:
        for word in ("put", "strike"):
            lines.extend(section_lines(plan, reteller, source, word, questions, turnings))
    leads = dict(questions)
    lines.append(reteller.retold(plan.answer, {}, leads).line(["answer"]))
    if plan.wish is not None:
        lines.append(reteller.retold(plan.wish, {}, leads).line(["wish"]))
    return "\n".join(lines)
