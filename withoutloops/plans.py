"""Plans: what the lines of a keeper's text tell, and which line cannot stand behind those ahead of it."""

from withoutloops.asks import Question
from withoutloops.errors import BadHead, BadKeeper, BadQuestion, BadTables
from withoutloops.values import is_name

MOST_LINES = 1000
MOST_TOLD = 3
MOST_KEPT = 16
MOST_LETS = 200

# By its first word, to which lot a line belongs. The lots stand in this sequence.
LOTS = {
    "told": 0, "kept": 1, "first": 2, "put": 3, "strike": 3, "let": 3, "bar": 3, "set": 3, "answer": 4, "wish": 5,
}

# By its first word, how many places a row of the table may have that a line tells of.
MANY_PLACES = {"told": ("0", "1", "2"), "kept": ("0", "1", "2", "3")}


class Line:
    """A line of a section: its number in the text, its first word, the table it tells of, and its question."""

    def __init__(self, number, word, name, question):
        self.number = number
        self.word = word
        self.name = name
        self.question = question


class Plan:
    """What a keeper's text tells. wish is None if there is none; sections are the lines of each (word, table)."""

    def __init__(self):
        self.told = ()
        self.kept = ()
        self.firsts = {}
        self.sections = {}
        self.answer = None
        self.wish = None


class PlanReader:
    """Reads a keeper's text line by line, and refuses the first line that cannot stand where it does."""

    def __init__(self):
        self.plan = Plan()
        self.number = 0
        self.lot = 0
        self.section = None
        self.changed = 0
        self.lets = ()
        self.sets = []

    def demand(self, fits):
        """Refuses the line that is read unless this is so."""
        if not fits:
            raise BadKeeper(self.number)

    def read_line(self, line):
        """Reads the next line."""
        self.number += 1
        words = line.split(" ")
        word = words[0]
        self.demand(self.number <= MOST_LINES and LOTS.get(word, -1) >= self.lot)
        self.lot = LOTS[word]
        if word in MANY_PLACES:
            self.read_table(words)
        elif word == "first":
            self.read_first(words)
        elif word in ("put", "strike"):
            self.read_section(words)
        elif word in ("let", "bar", "set"):
            self.read_step(words)
        elif word == "answer":
            self.read_answer(words)
        else:
            self.read_wish(words)

    def read_table(self, words):
        """Reads a line `told NAME k` or `kept NAME k`."""
        plan = self.plan
        self.demand(len(words) == 3 and is_name(words[1]) and words[2] in MANY_PLACES[words[0]])
        self.demand(words[1] not in dict(plan.told + plan.kept))
        table = (words[1], int(words[2]))
        if words[0] == "told":
            self.demand(len(plan.told) < MOST_TOLD)
            plan.told = plan.told + (table,)
        else:
            self.demand(len(plan.told) > 0 and len(plan.kept) < MOST_KEPT)
            plan.kept = plan.kept + (table,)

    def read_first(self, words):
        """Reads a line `first NAME X .. is E`, whose E asks no tables."""
        plan = self.plan
        name = self.name_in(words, dict(plan.kept))
        self.demand(name not in plan.firsts)
        question = self.read_loopless(words, 2, plan.told + plan.kept, 0)
        self.demand(len(question.head) == dict(plan.kept)[name])
        self.demand(not asks_one(question, plan.told + plan.kept))
        plan.firsts[name] = question

    def read_section(self, words):
        """Reads a line `put NAME` or `strike NAME`."""
        told = dict(self.plan.told)
        name = self.name_in(words, told)
        self.demand(len(words) == 2 and (words[0], name) not in self.plan.sections)
        self.section = []
        self.changed = told[name]
        self.lets = ()
        self.sets = []
        self.plan.sections[(words[0], name)] = self.section

    def read_step(self, words):
        """Reads a line of a section."""
        self.demand(self.section is not None)
        standing = self.plan.told + self.plan.kept + self.lets
        name = None
        if words[0] == "bar":
            question = self.asking((), words[1:], standing, self.changed)
            self.demand(question.is_loopless)
        elif words[0] == "let":
            self.demand(len(words) > 1 and is_name(words[1]) and len(self.lets) < MOST_LETS)
            name = words[1]
            self.demand(name not in dict(standing))
            question = self.read_loopless(words, 2, standing, self.changed)
            self.lets = self.lets + ((name, len(question.head)),)
        else:
            name = self.name_in(words, dict(self.plan.kept))
            self.demand(name not in self.sets)
            question = self.read_loopless(words, 2, standing, self.changed)
            self.demand(len(question.head) == dict(self.plan.kept)[name])
            self.sets.append(name)
        self.section.append(Line(self.number, words[0], name, question))

    def read_answer(self, words):
        """Reads a line `answer X .. is E`."""
        plan = self.plan
        self.demand(len(plan.told) > 0 and plan.answer is None)
        plan.answer = self.read_loopless(words, 1, plan.told + plan.kept, 0)

    def read_wish(self, words):
        """Reads a line `wish X .. is F`, whose F may have loops, but asks told tables alone."""
        plan = self.plan
        self.demand(plan.answer is not None and plan.wish is None)
        question = self.read_question(words, 1, plan.told + plan.kept, 0)
        self.demand(len(question.head) == len(plan.answer.head) and not asks_one(question, plan.kept))
        plan.wish = question

    def name_in(self, words, tables):
        """The second word, which is the name of one of the tables."""
        self.demand(len(words) > 1 and words[1] in tables)
        return words[1]

    def read_loopless(self, words, begin, tables, changed):
        """The loopless Question that is told, its head's names from this word on."""
        question = self.read_question(words, begin, tables, changed)
        self.demand(question.is_loopless)
        return question

    def read_question(self, words, begin, tables, changed):
        """The Question that is told by words `X .. is E`, of which the first is the one with this number, from 0."""
        self.demand("is" in words)
        end = words.index("is")
        return self.asking(words[begin:end], words[end + 1:], tables, changed)

    def asking(self, head, words, tables, changed):
        """The Question of these words."""
        try:
            return Question(tuple(head), " ".join(words), tables, changed)
        except (BadHead, BadTables, BadQuestion):
            raise BadKeeper(self.number) from None


def asks_one(question, tables):
    """Whether the question asks for one of the tables."""
    words = question.text.split(" ")
    return any([name in words for name, _ in tables])


def plan_of(text):
    """The Plan that a text tells."""
    if not isinstance(text, str):
        raise BadKeeper(0)
    lines = text.split("\n")
    reader = PlanReader()
    for line in lines:
        reader.read_line(line)
    if reader.plan.answer is None:
        raise BadKeeper(len(lines) + 1)
    return reader.plan
