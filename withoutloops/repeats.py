"""Repeats: histories that tell of more changes than could be done one by one, and what stands behind them."""

from withoutloops.doing import check_change
from withoutloops.errors import BadChange, BadHistory, Barred, Wide
from withoutloops.standings import Doer
from withoutloops.values import is_integer

MOST_TIMES = 1000000000000
MOST_WITHIN = 3


class Repeat:
    """A history that is done so many times. far is how many changes it tells, once.

    ends tells, by the numbers of STANDINGS, which one stands behind all its times, as far as that is known.
    """

    def __init__(self, times, parts):
        self.times = times
        self.parts = parts
        self.far = sum([part_changes(part) for part in parts])
        self.ends = {}


def part_changes(part):
    """How many changes a part of a history tells."""
    return part.times * part.far if isinstance(part, Repeat) else 1


def is_repeat(value):
    """Whether a part of a history is meant to be a repeat."""
    return isinstance(value, tuple) and len(value) == 3 and isinstance(value[0], str) and value[0] == "again"


class HistoryReader:
    """Reads a history of a keeper's changes over n places, and refuses what is none."""

    def __init__(self, keeper, n, history):
        self.told = keeper.told
        self.n = n
        self.history = history

    def read(self):
        """The history, as a Repeat of one time."""
        return Repeat(1, self.parts_of(self.history, 0))

    def demand(self, fits):
        """Refuses the whole history unless this is so."""
        if not fits:
            raise BadHistory(self.history)

    def parts_of(self, value, within):
        """The parts of a history that stands within so many repeats."""
        self.demand(isinstance(value, tuple))
        return [self.part_of(part, within) for part in value]

    def part_of(self, value, within):
        """A part of a history that stands within so many repeats: a change, or a Repeat."""
        if is_repeat(value):
            _, times, history = value
            self.demand(is_integer(times, 0, MOST_TIMES) and within < MOST_WITHIN)
            return Repeat(times, self.parts_of(history, within + 1))
        try:
            check_change(value, self.told, self.n)
        except BadChange:
            raise BadHistory(self.history) from None
        return value


class Traveller:
    """Does histories from STANDING to STANDING, which are numbered as they are met. Nothing is worked out twice."""

    def __init__(self, keeper, n, most):
        self.doer = Doer(keeper, n)
        self.most = most
        self.numbers = {}
        self.met = []
        self.leads = {}

    def first_number(self):
        """The number of the STANDING ahead of all changes."""
        return self.number_of(self.doer.first())

    def number_of(self, standing):
        """The number of a STANDING."""
        if standing not in self.numbers:
            self.numbers[standing] = len(self.met)
            self.met.append(standing)
        return self.numbers[standing]

    def behind_change(self, number, change, ahead):
        """What stands behind a change ahead of which so many were done."""
        if (number, change) not in self.leads:
            try:
                standing = self.doer.done(self.met[number], change)
            except Barred:
                raise Barred(ahead) from None
            self.leads[(number, change)] = self.number_of(standing)
        return self.leads[(number, change)]

    def behind_parts(self, number, parts, ahead):
        """What stands behind parts of a history ahead of which so many changes were done."""
        for part in parts:
            if isinstance(part, Repeat):
                number = self.behind_repeat(number, part, ahead)
            else:
                number = self.behind_change(number, part, ahead)
            ahead += part_changes(part)
        return number

    def behind_repeat(self, number, repeat, ahead):
        """What stands behind a Repeat ahead of which so many changes were done."""
        if number not in repeat.ends:
            repeat.ends[number] = self.behind_times(number, repeat, ahead)
        return repeat.ends[number]

    def behind_times(self, number, repeat, ahead):
        """The same, worked out time by time, until a STANDING comes round."""
        line = Line(number)
        while line.many_times() < repeat.times:
            # There is one STANDING more than times: the one ahead of all of them.
            if line.many_times() == self.most:
                raise Wide(self.most)
            last = self.behind_parts(line.last(), repeat.parts, ahead + line.many_times() * repeat.far)
            if line.has(last):
                return line.met_behind(repeat.times, last)
            line.meet(last)
        return line.last()

    def again_after(self, history):
        """Behind how many times of a history, told as a Repeat, a STANDING is met that is met again, and how soon."""
        line = Line(self.first_number())
        while line.many_times() < self.most:
            last = self.behind_parts(line.last(), history.parts, line.many_times() * history.far)
            if line.has(last):
                return line.round_from(last)
            line.meet(last)
        raise Wide(self.most)


class Line:
    """Unlike STANDINGS, by their numbers, as they are met behind 0, 1, 2, .. times."""

    def __init__(self, number):
        self.met = [number]
        self.behind_many = {number: 0}

    def many_times(self):
        """Behind how many times the last one was met."""
        return len(self.met) - 1

    def last(self):
        """The last one."""
        return self.met[-1]

    def has(self, number):
        """Whether this one was met."""
        return number in self.behind_many

    def meet(self, number):
        """Meets one more."""
        self.behind_many[number] = len(self.met)
        self.met.append(number)

    def round_from(self, number):
        """Behind how many times this one was met, and how many times later it is met again, which is now."""
        first = self.behind_many[number]
        return first, len(self.met) - first

    def met_behind(self, times, number):
        """The one behind so many times, if the next one that is met is this one again."""
        first, many = self.round_from(number)
        return self.met[first + (times - first) % many]


def check_history(keeper, n, history):
    """The history as a Repeat of one time. Refuses what is none."""
    return HistoryReader(keeper, n, history).read()
