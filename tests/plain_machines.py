"""Machines for the tests, right and wrong ones, and how they read, plainly."""

EVEN = (2, 0, (0,), ('a', 'b'), ((1, 0), (0, 1)))
THREE = (3, 1, (0, 2), ('c', 'a', 'z'), ((1, 2, 0), (0, 0, 2), (2, 1, 1)))
FOUR = (4, 0, (1,), ('a',), ((1,), (2,), (3,), (0,)))

# What is no machine, each wrong in one of its parts.
BAD_MACHINES = [
    (), EVEN[:4], EVEN + (0,), list(EVEN), (2, 0, (0,), ('a', 'b'), [(1, 0), (0, 1)]),
    (0, 0, (), ('a',), ()), (65, 0, (), ('a',), ((0,),) * 65), (True, 0, (), ('a',), ((0,),)), (None, 0, (), ('a',), ((0,),)),
    ('1', 0, (), ('a',), ((0,),)), (-1, 0, (), ('a',), ()),
    (1, 1, (), ('a',), ((0,),)), (1, -1, (), ('a',), ((0,),)), (1, False, (), ('a',), ((0,),)), (1, None, (), ('a',), ((0,),)),
    (1, (0,), (), ('a',), ((0,),)),
    (2, 0, (2,), ('a', 'b'), ((1, 0), (0, 1))), (2, 0, (1, 0), ('a', 'b'), ((1, 0), (0, 1))),
    (2, 0, (0, 0), ('a', 'b'), ((1, 0), (0, 1))), (2, 0, [0], ('a', 'b'), ((1, 0), (0, 1))),
    (2, 0, 0, ('a', 'b'), ((1, 0), (0, 1))), (2, 0, (True,), ('a', 'b'), ((1, 0), (0, 1))),
    (2, 0, None, ('a', 'b'), ((1, 0), (0, 1))), (2, 0, (0, None), ('a', 'b'), ((1, 0), (0, 1))),
    (2, 0, ((0,),), ('a', 'b'), ((1, 0), (0, 1))), (2, 0, (-1,), ('a', 'b'), ((1, 0), (0, 1))),
    (2, 0, (0,), (), ((), ())), (2, 0, (0,), ('a', 'a'), ((1, 0), (0, 1))), (2, 0, (0,), ['a', 'b'], ((1, 0), (0, 1))),
    (2, 0, (0,), ('a', 'b', 'c', 'd'), ((1, 0, 0, 0), (0, 1, 0, 0))), (2, 0, (0,), 'ab', ((1, 0), (0, 1))),
    (2, 0, (0,), ('a', None), ((1, 0), (0, 1))), (2, 0, (0,), ('a', 1), ((1, 0), (0, 1))), (2, 0, (0,), ('a', ('b',)), ((1, 0), (0, 1))),
    (2, 0, (0,), ('a', ''), ((1, 0), (0, 1))), (2, 0, (0,), ('a', 'bc'), ((1, 0), (0, 1))), (2, 0, (0,), ('a', 'B'), ((1, 0), (0, 1))),
    (2, 0, (0,), ('a', '1'), ((1, 0), (0, 1))), (2, 0, (0,), ('a', ['b']), ((1, 0), (0, 1))), (2, 0, (0,), None, ((1, 0), (0, 1))),
    (2, 0, (0,), ('a', 'b'), ()), (2, 0, (0,), ('a', 'b'), ((1, 0),)), (2, 0, (0,), ('a', 'b'), ((1, 0), (0, 1), (0, 0))),
    (2, 0, (0,), ('a', 'b'), ((1, 0), (0,))), (2, 0, (0,), ('a', 'b'), ((1, 0), (0, 1, 0))), (2, 0, (0,), ('a', 'b'), ((1, 0), (0, 2))),
    (2, 0, (0,), ('a', 'b'), ((1, 0), (0, -1))), (2, 0, (0,), ('a', 'b'), ((1, 0), (0, True))), (2, 0, (0,), ('a', 'b'), ((1, 0), [0, 1])),
    (2, 0, (0,), ('a', 'b'), ((1, 0), None)), (2, 0, (0,), ('a', 'b'), ((1, 0), (0, None))), (2, 0, (0,), ('a', 'b'), None),
    (2, 0, (0,), ('a', 'b'), ((1, 0), (0, '1'))), (2, 0, (0,), ('a', 'b'), ((1, 0), (0, (1,)))), (2, 0, (0,), ('a', 'b'), (1, 0, 0, 1)),
] + [(1, 0, (), (sign,), ((0,),)) for sign in 'pqrxy']


def state_behind(machine, state, word):
    for sign in word:
        state = machine[4][state][machine[3].index(sign)]
    return state


def plain_reads(machine, word):
    return state_behind(machine, machine[1], word) in machine[2]


def small_machines(states, signs):
    """Machines of so many states, all ends, steps by rule: many unlike ones."""
    ends = [tuple(state for state in range(states) if at >> state & 1) for at in range(2 ** states)]
    leads = [tuple((state * by + more) % states for by, more in zip((1, 2, 0), (shift, shift + 1, 1)))
             for shift in range(states) for state in range(states)]
    for at, some in enumerate(ends):
        steps = tuple(leads[(at + state * 2) % len(leads)][:len(signs)] for state in range(states))
        yield states, at % states, some, signs, steps
