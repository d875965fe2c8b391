"""Machines: which values are machines, and machines made of anything that goes on by signs."""

from withoutloops.errors import BadMachine, Wide
from withoutloops.values import LETTERS, is_ascending, is_integer

MOST_STATES = 64
MOST_SIGNS = 3
NO_SIGNS = ("p", "q", "r", "x", "y")


def is_sign(value):
    """Whether value is a letter that a machine may have for a sign."""
    return isinstance(value, str) and len(value) == 1 and value in LETTERS and value not in NO_SIGNS


def are_signs(value):
    """Whether value is a tuple of one to three unlike signs."""
    if not isinstance(value, tuple) or not 1 <= len(value) <= MOST_SIGNS:
        return False
    return all([is_sign(sign) for sign in value]) and len(set(value)) == len(value)


def are_states(value, states):
    """Whether value is a tuple of some of so many states."""
    return isinstance(value, tuple) and all([is_integer(state, 0, states - 1) for state in value])


def are_steps_by_signs(value, states, many):
    """Whether value tells, for each of so many states, by so many signs, to which state it leads."""
    if not isinstance(value, tuple) or len(value) != states:
        return False
    return all([are_states(leads, states) and len(leads) == many for leads in value])


def is_machine(value):
    """Whether value is a MACHINE."""
    if not isinstance(value, tuple) or len(value) != 5:
        return False
    states, start, ends, signs, steps = value
    if not is_integer(states, 1, MOST_STATES) or not is_integer(start, 0, states - 1):
        return False
    if not are_states(ends, states) or not is_ascending(ends) or not are_signs(signs):
        return False
    return are_steps_by_signs(steps, states, len(signs))


def check_machine(machine):
    """Refuses what is no MACHINE."""
    if not is_machine(machine):
        raise BadMachine(machine)


class Machine:
    """What a MACHINE tells, by names."""

    def __init__(self, told):
        self.states = range_of(told[0])
        self.start = told[1]
        self.ends = told[2]
        self.signs = told[3]
        self.steps = told[4]

    def state_behind(self, state, word):
        """The state to which a word leads from a state."""
        for sign in word:
            state = self.steps[state][self.signs.index(sign)]
        return state


def range_of(many):
    """The integers from 0 on, so many."""
    return tuple(range(many))


def numbered(start, signs, lead, is_end):
    """The MACHINE whose states, whatever they are, are numbered as they are come to from start.

    lead tells to which state a state leads by the sign with a number, is_end whether a state is one of ends.
    """
    numbers = {start: 0}
    met = [start]
    steps = []
    while len(steps) < len(met):
        state = met[len(steps)]
        leads = [lead(state, sign) for sign in range(len(signs))]
        for other in leads:
            if other not in numbers:
                numbers[other] = len(met)
                met.append(other)
        steps.append(tuple([numbers[other] for other in leads]))
        if len(met) > MOST_STATES:
            raise Wide(MOST_STATES)
    ends = tuple([number for number, state in enumerate(met) if is_end(state)])
    return len(met), 0, ends, signs, tuple(steps)


def kinds_of(machine):
    """By states, the number of its kind: two states are of one kind if the same words lead from them to ends."""
    kinds = [1 if state in machine.ends else 0 for state in machine.states]
    many = 0
    while many < len(set(kinds)):
        many = len(set(kinds))
        told = [(kinds[state], tuple([kinds[other] for other in machine.steps[state]])) for state in machine.states]
        names = {}
        for key in told:
            names.setdefault(key, len(names))
        kinds = [names[key] for key in told]
    return kinds
