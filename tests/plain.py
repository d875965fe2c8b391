"""What the tests measure the program by: questions read and answered the plainest way, and values of all kinds.

Nothing here uses how the program reads or answers a question.
"""

import itertools

from withoutloops.asks import Question

KEYWORDS = (
    'yes no same less not and or some every reach told kept first put strike let bar set answer wish is p q r'
).split()

PARTS = {'not': 1, 'and': 2, 'or': 2, 'some': 1, 'every': 1, 'reach': 1}
BOUND = {'some': 1, 'every': 1, 'reach': 2}
PLACES = {'same': 2, 'less': 2, 'reach': 2}


def nested(make, times=60):
    value = make(0)
    for _ in range(times):
        value = make(value)
    return value


def odd_values():
    """Values of all kinds, none of them a number of places, a head, TABLES, a Question or a STORE."""
    return [
        None, True, False, 0, -1, 6, 7, 'x', 'yes', '1', [], {}, [1], ['x'], {'x': 1}, {1: 'x'}, (0,), (None,),
        (True,), ('', ''), ((),), ([],), ('x', ('y',)), (('row', 2), 'x'), [('row', 2)], ('no',),
        nested(lambda value: (value,)), nested(lambda value: [value]), nested(lambda value: {'x': value}),
        (Question((), 'yes', (), 0),), ValueError('x'),
    ]


def is_plain_name(word):
    return (
        isinstance(word, str) and 1 <= len(word) <= 6 and word not in KEYWORDS
        and all(sign in 'abcdefghijklmnopqrstuvwxyz0123456789' for sign in word) and not word[0].isdigit()
    )


def first_wrong(text, head, tables, changed):
    """The number of the word that is refused, None if none is: by a list of what is still to come."""
    tables = dict(tables)
    words = text.split(' ')
    to_come = [('question', [], 0)]
    outer = list(head) + ['p', 'q', 'r'][:changed]
    for number, word in enumerate(words, 1):
        if number == 101 or not to_come:
            return number
        kind, frames, within = to_come.pop()
        if kind == 'place':
            if word not in outer and not any(word in frame for frame in frames):
                return number
        elif kind == 'bound':
            if not is_plain_name(word) or word in tables or word in frames[-1]:
                return number
            frames[-1].append(word)
        elif within > 13 or word not in tables and word not in KEYWORDS[:10]:
            return number
        else:
            own = []
            inner = frames + [own]
            coming = [('place', frames, 0)] * tables.get(word, PLACES.get(word, 0))
            coming += [('bound', inner, 0)] * BOUND.get(word, 0)
            coming += [('question', inner, within + 1)] * PARTS.get(word, 0)
            to_come += reversed(coming)
    return len(words) + 1 if to_come else None


def tree(text, tables):
    """(word, names of places, names that are bound, trees within) of a text that is a question."""
    tables = dict(tables)
    words = text.split(' ')

    def read():
        word = words.pop(0)
        places = tuple(words.pop(0) for _ in range(tables.get(word, PLACES.get(word, 0))))
        bound = tuple(words.pop(0) for _ in range(BOUND.get(word, 0)))
        return word, places, bound, tuple(read() for _ in range(PARTS.get(word, 0)))

    return read()


def all_parts(part):
    return [part] + [inner for within in part[3] for inner in all_parts(within)]


def free(part):
    _, places, bound, within = part
    names = {name for inner in within for name in free(inner)} - set(bound)
    return (names | set(places)) - {'p', 'q', 'r'}


def holds(part, at, n, store):
    """Whether a part holds, the names standing at these places: by going through all places."""
    word, places, bound, within = part
    here = tuple(at[name] for name in places)
    if word in store:
        return here in store[word]
    if word in ('yes', 'no'):
        return word == 'yes'
    if word == 'same':
        return here[0] == here[1]
    if word == 'less':
        return here[0] < here[1]
    if word == 'not':
        return not holds(within[0], at, n, store)
    if word == 'and':
        return holds(within[0], at, n, store) and holds(within[1], at, n, store)
    if word == 'or':
        return holds(within[0], at, n, store) or holds(within[1], at, n, store)
    if word in ('some', 'every'):
        found = [holds(within[0], {**at, bound[0]: place}, n, store) for place in range(n)]
        return any(found) if word == 'some' else all(found)
    met = [here[0]]
    for one in met:
        for other in range(n):
            if other not in met and holds(within[0], {**at, bound[0]: one, bound[1]: other}, n, store):
                met.append(other)
    return here[1] in met


def rows_over(names, part, n, store, row):
    """The ascending tuple of the rows of places of these names for which a part holds."""
    store = {name: set(rows) for name, rows in store}
    changed = dict(zip('pqr', row))
    return tuple(
        places for places in itertools.product(range(n), repeat=len(names))
        if holds(part, {**changed, **dict(zip(names, places))}, n, store)
    )


def plain_answer(question, n, store, row):
    return rows_over(question.head, tree(question.text, question.tables), n, store, row)


def plain_number(question, n, store, row):
    """How many rows all tables hold when each part has one."""
    parts = all_parts(tree(question.text, question.tables))
    return sum(len(rows_over(sorted(free(part)), part, n, store, row)) for part in parts)


def plain_looks(question, n):
    """Looks counted one by one, as they are taken."""
    def count(part):
        word, _, _, within = part
        if not within:
            return 0 if word in ('yes', 'no') else 1
        times = n if word in ('some', 'every') else 1
        return sum(count(inner) for _ in range(times) for inner in within)

    whole = tree(question.text, question.tables)
    return sum(count(whole) for _ in range(n ** len(question.head)))


def plain_width(question):
    numbers = [len(question.head)]
    for part in all_parts(tree(question.text, question.tables)):
        _, _, bound, within = part
        numbers.append(len(free(within[0]) | set(bound)) if bound else len(free(part)))
    return max(numbers)


def plain_deep(part):
    return 1 + max((plain_deep(inner) for inner in part[3]), default=0)


# Names that questions bind; few of them, so that names are often bound anew.
POOL = ('x', 'y', 'u', 'v', 'a1')


def random_text(rng, tables, alive, most_deep, loops=False, asks=0.7, pool=POOL):
    """The text of a question at most so deep; it binds names of the pool, those of the head among them."""
    if most_deep == 1 or rng.random() > asks + most_deep / 20:
        words = [(name, many) for name, many in tables] + [('same', 2), ('less', 2), ('yes', 0), ('no', 0)]
        weights = [6] * len(tables) + [2, 2, 1, 1]
        fitting = [at for at, (_, many) in enumerate(words) if alive or many == 0]
        word, many = words[rng.choices(fitting, [weights[at] for at in fitting])[0]]
        return ' '.join([word] + [rng.choice(alive) for _ in range(many)])

    def within(names):
        return random_text(rng, tables, names, most_deep - 1, loops, asks, pool)

    words = ['not', 'and', 'and', 'or', 'or', 'some', 'some', 'every']
    word = rng.choice(words + ['reach', 'reach'] if loops and alive else words)
    if word == 'not':
        return f'not {within(alive)}'
    if word in ('and', 'or'):
        return f'{word} {within(alive)} {within(alive)}'
    if word == 'reach':
        one, other = rng.sample(pool, 2)
        inner = within(alive + [one, other])
        return f'reach {rng.choice(alive)} {rng.choice(alive)} {one} {other} {inner}'
    name = rng.choice(pool)
    return f'{word} {name} {within(alive + [name])}'


def random_rows(rng, many, n):
    rows = list(itertools.product(range(n), repeat=many))
    share = rng.choice([0, 0.2, 0.5, 0.8, 1])
    return tuple(row for row in rows if rng.random() < share)


def balanced(word, parts):
    """All parts joined by a word of two, as shallow as can be."""
    if len(parts) == 1:
        return parts[0]
    half = len(parts) // 2
    return f'{word} {balanced(word, parts[:half])} {balanced(word, parts[half:])}'


def subsets(rows):
    """All tuples of some of the rows, each ascending."""
    rows = sorted(rows)
    return [
        tuple(row for row, is_in in zip(rows, chosen) if is_in)
        for chosen in itertools.product((False, True), repeat=len(rows))
    ]


def all_stores(tables, n):
    """All STORES of the tables over n places."""
    each = [
        [(name, rows) for rows in subsets(itertools.product(range(n), repeat=many))] for name, many in tables
    ]
    return list(itertools.product(*each))


def all_pairs(tables, changed, n):
    """All (STORE, row) of the tables and so many changed places."""
    rows = list(itertools.product(range(n), repeat=changed))
    return [(store, row) for store in all_stores(tables, n) for row in rows]


def random_asked(rng, n, most_deep, loops=False):
    """A Question, a STORE of its tables over n places, and a changed row."""
    tables = (('row', 2), ('in', 1), ('odd', 0), ('mid', 3))[:rng.randint(1, 4)]
    head = ('x', 'y', 'b')[:rng.randint(0, 3)]
    changed = rng.randint(0, 3)
    while True:
        text = random_text(rng, tables, list(head) + ['p', 'q', 'r'][:changed], most_deep, loops)
        if len(text.split(' ')) <= 100:
            break
    store = tuple((name, random_rows(rng, many, n)) for name, many in tables)
    row = tuple(rng.randrange(n) for _ in range(changed))
    return Question(head, text, tables, changed), store, row
