"""What the tests measure far histories by: all their CHANGES done one behind another, plainly."""

from tests.plain_keepers import PlainBook, random_change


class PlainBarred(Exception):
    pass


class PlainWide(Exception):
    pass


class PlainTraveller:
    """Does histories of few times in a plain book, and counts what is done."""

    def __init__(self, text, n, most):
        self.book = PlainBook(text, n)
        self.most = most
        self.done = 0

    def standing(self):
        return self.book.store_of(self.book.told), self.book.store_of(self.book.kept)

    def do(self, history):
        for part in history:
            if part[0] != 'again':
                # A bar tells the number of its line.
                if not isinstance(self.book.do(part), bool):
                    raise PlainBarred
                self.done += 1
                continue
            _, times, inner = part
            met = {self.standing()}
            for _ in range(times):
                self.do(inner)
                met.add(self.standing())
                if len(met) > self.most and times > self.most:
                    raise PlainWide

    def again_after(self, history):
        met = [self.standing()]
        while True:
            self.do(history)
            if self.standing() in met:
                ahead = met.index(self.standing())
                return ahead, len(met) - ahead
            met.append(self.standing())
            if len(met) > self.most:
                raise PlainWide


def plain_many(history):
    return sum(part[1] * plain_many(part[2]) if part[0] == 'again' else 1 for part in history)


def random_history(rng, told, n, within=0, most_parts=4, most_times=5):
    """A history of few times, at most three repeats within one another."""
    parts = []
    for _ in range(rng.randint(0, most_parts)):
        if within < 3 and rng.random() < 0.45:
            times = rng.randint(0, most_times)
            parts.append(('again', times, random_history(rng, told, n, within + 1, most_parts - 1, most_times)))
        else:
            parts.append(random_change(rng, told, n))
    return tuple(parts)
