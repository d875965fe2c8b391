"""What the tests measure benches by: a bench that keeps lists of deeds, and does all of them anew."""

from tests.plain_keepers import PlainBook, random_change


class Thrown(Exception):
    """What a look throws."""


class PlainBench:
    def __init__(self, text, n):
        self.text, self.n = text, n
        self.deeds, self.undone = [], []
        self.trials = []

    def book(self):
        book = PlainBook(self.text, self.n)
        for deed in self.deeds:
            assert isinstance(book.do(deed), bool)
        return book

    def do(self, change):
        """True or False as a Book tells, None if it is barred."""
        done = self.book().do(change)
        if not isinstance(done, bool):
            return None
        self.deeds.append(change)
        self.undone = []
        return done

    def undo(self):
        if not self.deeds:
            return None
        self.undone.append(self.deeds.pop())
        return 'done'

    def redo(self):
        if not self.undone:
            return None
        self.deeds.append(self.undone.pop())
        return 'done'

    def keep(self):
        if not self.trials:
            return None
        self.trials[-1] = True
        return 'done'

    def tried(self, look, keep):
        ahead = list(self.deeds), list(self.undone)
        self.trials.append(False)
        stands = False
        try:
            told = look(self)
            stands = self.trials[-1] or keep is True
        finally:
            self.trials.pop()
            if not stands:
                self.deeds, self.undone = ahead
        return told

    def journal(self):
        lines = [' '.join([word, name, *map(str, row)]) for word, name, row in self.deeds]
        return '\n'.join([self.text, f'size {self.n}', 'deeds', *lines])


KEEPS = [True, False, False, 1, 'yes', None, (True,), 0, []]


def random_deeds(rng, told, n, many, within=0):
    """Drawn deeds: ('do', change), ('undo',), ('redo',), ('keep',), ('throw',), ('try', keep, deeds)."""
    deeds = []
    for _ in range(many):
        kind = rng.choices(['do', 'undo', 'redo', 'keep', 'try', 'throw'], [10, 5, 4, 1 + 2 * within, 3 - within, within / 3])[0]
        if kind == 'do':
            deeds.append(('do', random_change(rng, told, n)))
        elif kind == 'try':
            deeds.append(('try', rng.choice(KEEPS), random_deeds(rng, told, n, rng.randint(0, 6), within + 1)))
        else:
            deeds.append((kind,))
    return deeds
