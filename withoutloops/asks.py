"""Questions: what is asked of a store, told in words."""

from withoutloops.errors import BadChanged, BadHead, BadTables, HasLoop, NoQuestion
from withoutloops.parts import whole_part
from withoutloops.values import CHANGED_NAMES, is_head, is_integer, is_tables


class Question:
    """Asks for the rows of places of its head for which its text holds."""

    def __init__(self, head, text, tables, changed):
        if not is_head(head):
            raise BadHead(head)
        if not is_tables(tables) or any([name in head for name, _ in tables]):
            raise BadTables(tables)
        if not is_integer(changed, 0, len(CHANGED_NAMES)):
            raise BadChanged(changed)
        self.whole = whole_part(head, text, tables, changed)
        self.head = head
        self.text = text
        self.tables = tables
        self.changed = changed
        self.is_loopless = "reach" not in text.split(" ")
        self.deep = self.whole.depth

    def __eq__(self, other):
        return (
            isinstance(other, Question)
            and self.head == other.head
            and self.text == other.text
            and self.tables == other.tables
            and self.changed == other.changed
        )


def check_question(question):
    """Refuses what is no Question."""
    if not isinstance(question, Question):
        raise NoQuestion(question)


def check_loopless(question):
    """Refuses what is no Question, or a loop question."""
    check_question(question)
    if not question.is_loopless:
        raise HasLoop(question.text)


def width(question):
    """The greatest number of names that are free in a part of the question, those that it binds with them."""
    check_question(question)
    return max(len(question.head), question.whole.most_names)
