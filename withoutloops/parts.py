"""Parts: the questions within a question, as they are read from the words of its text."""

from withoutloops.errors import BadQuestion
from withoutloops.values import CHANGED_NAMES, is_name

MOST_WORDS = 100
MOST_DEEP = 14

# For each word that begins a question: how many names of places, bound names and questions belong to it.
SHAPES = {
    "yes": (0, 0, 0),
    "no": (0, 0, 0),
    "same": (2, 0, 0),
    "less": (2, 0, 0),
    "not": (0, 0, 1),
    "and": (0, 0, 2),
    "or": (0, 0, 2),
    "some": (0, 1, 1),
    "every": (0, 1, 1),
    "reach": (2, 2, 1),
}


def free_names(places, bound, inner):
    """The ascending names that are free in a part with these names of places, bound names and inner parts."""
    names = [name for name in places if name not in CHANGED_NAMES]
    for part in inner:
        names.extend([name for name in part.free if name not in bound])
    return tuple(sorted(set(names)))


class Part:
    """A question within a question, or the whole one: its word, and what belongs to this word."""

    def __init__(self, word, places, bound, inner):
        self.word = word
        self.places = places
        self.bound = bound
        self.inner = inner
        self.free = free_names(places, bound, inner)
        self.depth = 1 + max([part.depth for part in inner], default=0)
        held = [len(set(part.free + bound)) for part in inner]
        self.most_names = max([len(self.free)] + held + [part.most_names for part in inner])


class Reader:
    """Reads a text word by word, and refuses the first word that cannot go on."""

    def __init__(self, text, tables):
        self.words = text.split(" ")
        self.many_read = 0
        self.shapes = dict(SHAPES)
        for name, many in tables:
            self.shapes[name] = (many, 0, 0)

    def next_word(self):
        """The next word. Behind the last one that may stand it is without signs, as no word may be."""
        if self.many_read == min(len(self.words), MOST_WORDS):
            return ""
        return self.words[self.many_read]

    def take(self, fits):
        """Goes on behind the next word if it fits."""
        if not fits:
            raise BadQuestion(self.many_read + 1)
        self.many_read += 1

    def read_place(self, alive):
        """Reads the name of a place that is alive."""
        name = self.next_word()
        self.take(name in alive)
        return name

    def read_bound(self, many):
        """Reads so many unlike names that are bound."""
        bound = ()
        for _ in range(many):
            name = self.next_word()
            self.take(is_name(name) and name not in self.shapes and name not in bound)
            bound = bound + (name,)
        return bound

    def read_part(self, alive, within):
        """Reads a question, where these names are alive, that stands within so many words."""
        word = self.next_word()
        self.take(word in self.shapes and within < MOST_DEEP)
        many_places, many_bound, many_inner = self.shapes[word]
        places = tuple([self.read_place(alive) for _ in range(many_places)])
        bound = self.read_bound(many_bound)
        inner = tuple([self.read_part(alive + bound, within + 1) for _ in range(many_inner)])
        return Part(word, places, bound, inner)

    def read_end(self):
        """Refuses a word that is left."""
        if self.many_read < len(self.words):
            raise BadQuestion(self.many_read + 1)


def whole_part(head, text, tables, changed):
    """The part that is the whole question of this text."""
    if not isinstance(text, str):
        raise BadQuestion(0)
    reader = Reader(text, tables)
    whole = reader.read_part(head + CHANGED_NAMES[:changed], 0)
    reader.read_end()
    return whole
