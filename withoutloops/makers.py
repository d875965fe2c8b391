"""Makers: keepers made of Keepers, for other answers, of two of them, and carried over to other tables."""

from withoutloops.asks import Question
from withoutloops.carriedtexts import carried_text
from withoutloops.carrying import all_turnings, greatest, leading_questions
from withoutloops.errors import BadCarrying, BadHead, BadPair, BadTable, HasLoop, Unbounded, Wide
from withoutloops.keepers import Keeper, check_keeper
from withoutloops.plans import MOST_KEPT, MOST_TOLD
from withoutloops.retelling import Reteller, Retold, fresh_names, table_lines
from withoutloops.values import is_head, is_name

# What stands ahead of the names of the kept tables of the one, and of those of the other.
MARKS = ("a", "b")


def with_answer(keeper, head, text):
    """The Keeper like this one, but with this answer, and without a wish."""
    check_keeper(keeper)
    tables = keeper.told + keeper.kept
    if not is_head(head) or any([name in dict(tables) for name in head]):
        raise BadHead(head)
    question = Question(head, text, tables, 0)
    if not question.is_loopless:
        raise HasLoop(text)
    lines = [line for line in keeper.text.split("\n") if line.split(" ")[0] not in ("answer", "wish")]
    return Keeper("\n".join(lines + [" ".join(("answer",) + head + ("is", text))]))


class Side:
    """One of two Keepers that are put together: what its tables are called, and its sections."""

    def __init__(self, keeper, mark):
        self.plan = keeper.plan
        self.kept = [(mark + name, many) for name, many in keeper.kept]
        self.called = {name: mark + name for name, _ in keeper.kept}

    def section_lines(self, reteller, key, lets):
        """The lines of one of its sections, lets called by these names one after the other, and those left."""
        called = dict(self.called)
        found = []
        for line in self.plan.sections.get(key, []):
            retold = reteller.retold(line.question, called, {})
            if line.word == "bar":
                found.append(" ".join(["bar"] + retold.words))
                continue
            if line.word == "let":
                called[line.name] = lets[0]
                lets = lets[1:]
            found.append(retold.line([line.word, called[line.name]]))
        return found, lets


def told_by_both(one, other):
    """The told tables of one, then those that other alone has."""
    return one.told + tuple([table for table in other.told if table[0] not in dict(one.told)])


def check_pair(one, other):
    """Refuses what is no Keeper, and two of them whose told tables do not go together."""
    check_keeper(one)
    check_keeper(other)
    others = dict(other.told)
    for name, many in one.told:
        if others.get(name, many) != many:
            raise BadPair(name)


def check_answers(one, other):
    """Refuses two Keepers that do not go together, or whose answers ask for unlike numbers of places."""
    check_pair(one, other)
    if len(one.plan.answer.head) != len(other.plan.answer.head):
        raise BadPair(None)


def check_tables(told, kept):
    """Refuses too many tables, and names that no kept table may have."""
    if len(told) > MOST_TOLD:
        raise Wide(len(told))
    if len(kept) > MOST_KEPT:
        raise Wide(len(kept))
    for name, _ in kept:
        if not is_name(name) or name in dict(told):
            raise BadTable(name)


def put_together(one, other, join):
    """The Keeper of both, join telling the words of its answer by those of both answers."""
    told = told_by_both(one, other)
    sides = [Side(keeper, mark) for keeper, mark in zip((one, other), MARKS)]
    kept = sides[0].kept + sides[1].kept
    check_tables(told, kept)
    taken = [name for name, _ in list(told) + kept]
    reteller = Reteller(taken)
    lines = table_lines("told", told) + table_lines("kept", kept)
    for side in sides:
        lines.extend(reteller.first_lines(side.plan, side.called))
    for name, _ in told:
        for word in ("put", "strike"):
            lines.extend(section_of_both(reteller, sides, (word, name), taken))
    answers = [reteller.retold(side.plan.answer, side.called, {}) for side in sides]
    # Both heads are called alike if they have as many places. Where they have not, one alone is told.
    answer = Retold(answers[0].head, join(answers[0].words, answers[1].words))
    return Keeper("\n".join(lines + [answer.line(["answer"])]))


def section_of_both(reteller, sides, key, taken):
    """The section of both sides for this word and told table, no lines if none of both has one."""
    lets = fresh_names("l", sum([len(side.plan.sections.get(key, [])) for side in sides]), taken)
    found = []
    for side in sides:
        lines, lets = side.section_lines(reteller, key, lets)
        found.extend(lines)
    return [" ".join(key)] + found if len(found) > 0 else []


def beside(one, other):
    """The Keeper of what both keep, with the answer of one."""
    check_pair(one, other)
    return put_together(one, other, lambda words, others: words)


def both_hold(one, other):
    """The Keeper of what both keep, whose answer tells what both answers tell."""
    check_answers(one, other)
    return put_together(one, other, lambda words, others: ["and"] + words + others)


def either_holds(one, other):
    """The Keeper of what both keep, whose answer tells what one of both answers tells, or both."""
    check_answers(one, other)
    return put_together(one, other, lambda words, others: ["or"] + words + others)


def differs(one, other):
    """The Keeper of what both keep, whose answer tells what just one of both answers tells."""
    check_answers(one, other)
    return put_together(one, other, only_one)


def only_one(words, others):
    """The words of what just one of two questions tells."""
    return ["or", "and"] + words + ["not"] + others + ["and", "not"] + words + others


def carried(keeper, carrying):
    """The Keeper of what keeper keeps if to it the rows are told that each change of the sources turns."""
    check_keeper(keeper)
    questions = leading_questions(carrying)
    sources = carrying[0]
    if tuple([(name, len(question.head)) for name, question in questions]) != keeper.told:
        raise BadCarrying(carrying)
    if any([name in dict(keeper.kept) for name, _ in sources]):
        raise BadCarrying(carrying)
    turnings = all_turnings(sources, questions)
    if greatest(turnings) is None:
        raise Unbounded(None)
    return Keeper(carried_text(keeper.plan, sources, questions, turnings))
