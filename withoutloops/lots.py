"""Lots: which states nothing parts, and by which fewest moves two states are parted.

A state tells something, and each move leads from it to a state or is barred there. Two states are parted by moves
done in both, behind which they tell unlike things, or behind which one more move is barred in one alone.
"""

from withoutloops.standings import BARRED


class States:
    """All STANDINGS of some landscapes of the same rows, one landscape's behind the other's, as states.

    The moves are the puts of all rows, then their strikes.
    """

    def __init__(self, landscapes):
        rows = landscapes[0].rows
        puts = [("put", name, row) for name, row in rows]
        self.changes = puts + [("strike", name, row) for name, row in rows]
        self.tells = []
        self.moves = []
        for landscape in landscapes:
            first = len(self.moves)
            for number, standing in enumerate(landscape.met):
                self.tells.append(landscape.doer.answer_at(standing))
                self.moves.append(self.moves_from(first, number, landscape))

    def moves_from(self, first, number, landscape):
        """To which states all moves lead from a STANDING. The first one of its landscape is the state first."""
        store = dict(landscape.met[number][0])
        state = first + number
        puts, strikes = [], []
        for (name, row), lead in zip(landscape.rows, landscape.leads[number]):
            behind = BARRED if lead == BARRED else first + lead
            stands = row in store[name]
            puts.append(state if stands else behind)
            strikes.append(behind if stands else state)
        return puts + strikes


class Pairs:
    """Goes on from a pair of states by all moves done in both, fewest first.

    Two states that are tied by pairs need not be gone on from: what parts them parts one of these pairs, too.
    """

    def __init__(self, states, one, other):
        self.states = states
        self.leader = list(range(len(states.moves)))
        self.pairs = []
        self.came = []
        self.go_on(one, other, None)

    def leader_of(self, state):
        """The state that stands for all those that pairs tie to this one."""
        while self.leader[state] != state:
            self.leader[state] = self.leader[self.leader[state]]
            state = self.leader[state]
        return state

    def go_on(self, one, other, came):
        """Goes on from a pair, come to like this, unless its states are tied by now."""
        first, second = self.leader_of(one), self.leader_of(other)
        if first != second:
            self.leader[second] = first
            self.pairs.append((one, other))
            self.came.append(came)

    def are_unlike(self, one, other):
        """Whether two ends of a move, states or barred, are unlike by themselves."""
        if one == BARRED or other == BARRED:
            return one != other
        return self.states.tells[one] != self.states.tells[other]

    def parting_from(self, number):
        """The move that parts the pair with this number, None if none does; then all moves are done in it."""
        one, other = self.pairs[number]
        moves = list(zip(self.states.moves[one], self.states.moves[other]))
        for move, (first, second) in enumerate(moves):
            if self.are_unlike(first, second):
                return move
            if first != second:
                self.go_on(first, second, (number, move))
        return None

    def changes_to(self, number, last):
        """The changes that lead to the pair with this number, and the last move behind them."""
        moves = [last]
        while self.came[number] is not None:
            number, move = self.came[number]
            moves.append(move)
        return tuple([self.states.changes[move] for move in moves[::-1]])


def parting(states, one, other):
    """The fewest changes that part two states, None if nothing does."""
    if states.tells[one] != states.tells[other]:
        return ()
    pairs = Pairs(states, one, other)
    number = 0
    while number < len(pairs.pairs):
        move = pairs.parting_from(number)
        if move is not None:
            return pairs.changes_to(number, move)
        number += 1
    return None


class Lots:
    """The lots of states that nothing parts: lots are parted as long as one is left whose states are parted."""

    def __init__(self, states):
        self.states = states
        self.ahead = ahead_of(states.moves)
        bars = [tuple([end == BARRED for end in ends]) for ends in states.moves]
        keys = list(zip(states.tells, bars))
        numbers = {}
        for key in keys:
            numbers.setdefault(key, len(numbers))
        self.lots = [numbers[key] for key in keys]
        self.sizes = [0 for _ in numbers]
        for lot in self.lots:
            self.sizes[lot] += 1
        fresh = list(range(len(self.lots)))
        while len(fresh) > 0:
            fresh = self.part_on(fresh)

    def part_on(self, fresh):
        """Parts the lots from which moves lead to states that are in a fresh lot: the states that are in one now."""
        found = {}
        touched = {}
        for state in sorted(set([one for end in fresh for one in self.ahead[end]])):
            lot = self.lots[state]
            touched[lot] = touched.get(lot, 0) + 1
            found.setdefault((lot, self.ends_of(state)), []).append(state)
        moved = []
        for (lot, _), some in found.items():
            # As long as a part of the lot is left that is none of these, the lot's number is its own.
            if touched[lot] == self.sizes[lot]:
                touched[lot] = 0
            else:
                moved.append((lot, some))
        for lot, some in moved:
            self.move(lot, some)
        return [state for _, some in moved for state in some]

    def ends_of(self, state):
        """The lots to which the moves lead from a state."""
        return tuple([BARRED if end == BARRED else self.lots[end] for end in self.states.moves[state]])

    def move(self, lot, some):
        """Puts some states of a lot into a lot of their own."""
        self.sizes[lot] -= len(some)
        self.sizes.append(len(some))
        for state in some:
            self.lots[state] = len(self.sizes) - 1


def ahead_of(moves):
    """By states, those from which a move leads there."""
    found = [[] for _ in moves]
    for state, ends in enumerate(moves):
        for end in sorted(set(ends)):
            if end != BARRED:
                found[end].append(state)
    return found


def many_lots(states):
    """Into how many lots the states fall, if two are in one lot just if nothing parts them."""
    return len(Lots(states).sizes)
