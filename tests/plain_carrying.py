"""What the tests measure carryings by: led rows, turned rows and bounds, by going through all stores plainly."""

import itertools

from tests.plain import all_stores, rows_over, tree

SOURCES = [(('row', 2),), (('in', 1),), (('odd', 0),), (('row', 2), ('in', 1)), (('in', 1), ('up', 1)), (('odd', 0), ('in', 1)),
           (('odd', 0), ('even', 0)), (('row', 2), ('odd', 0))]


def plain_led(carrying, n, store):
    """The led rows, by tables in sequence."""
    sources, rows = carrying
    return tuple((name, rows_over(head, tree(text, sources), n, store, ())) for name, head, text in rows)


def behind(store, change):
    """The STORE behind a change."""
    word, name, row = change
    found = []
    for table, rows in store:
        if table == name:
            rows = tuple(sorted(set(rows) | {row})) if word == 'put' else tuple(other for other in rows if other != row)
        found.append((table, rows))
    return tuple(found)


def plain_turned(carrying, n, store, change):
    """(strikes, puts) of a change."""
    ahead, afterwards = [
        {(name, row) for name, rows in plain_led(carrying, n, one) for row in rows} for one in (store, behind(store, change))
    ]
    return tuple(sorted(ahead - afterwards)), tuple(sorted(afterwards - ahead))


def all_changes(sources, n):
    return [
        (word, name, row) for word in ('put', 'strike') for name, many in sources
        for row in itertools.product(range(n), repeat=many)
    ]


def plain_counts(carrying, n):
    """How many rows each change turns over n places, and whether one of them has a place that is not of the changed row."""
    sources, _ = carrying
    led = {store: {(name, row) for name, rows in plain_led(carrying, n, store) for row in rows} for store in all_stores(sources, n)}
    counts, has_strangers = set(), False
    for store, rows in led.items():
        for change in all_changes(sources, n):
            turned = rows ^ led[behind(store, change)]
            counts.add(len(turned))
            if any(set(row) - set(change[2]) for _, row in turned):
                has_strangers = True
    return counts, has_strangers


def holds_nowhere(text, head, sources, n=3):
    """Whether a text holds for no row where nothing stands."""
    nothing = tuple((name, ()) for name, _ in sources)
    return rows_over(head, tree(text, sources), n, nothing, ()) == ()


def random_leading_text(rng, sources, head, most_deep):
    """The text of a question without `some`, `every` and `reach`."""
    if most_deep == 1 or rng.random() < 0.3:
        words = [table for table in sources if head or table[1] == 0] * 4
        if head:
            words += [('less', 2), ('same', 2)]
        name, many = rng.choice(words or [('no', 0)])
        return ' '.join([name] + [rng.choice(head) for _ in range(many)])
    word = rng.choice(['and', 'and', 'or', 'not'])
    parts = [random_leading_text(rng, sources, head, most_deep - 1) for _ in range(1 if word == 'not' else 2)]
    return ' '.join([word] + parts)


def is_small(text, sources, words, leaves):
    names = [name for name, _ in sources]
    found = text.split(' ')
    return len(found) <= words and sum(word in names for word in found) <= leaves


def random_led(rng, sources, name, head, most_words=30, most_leaves=8):
    """(name, head, text) of a led table that has no rows where nothing stands."""
    while True:
        text = random_leading_text(rng, sources, head, rng.randint(1, 4))
        if is_small(text, sources, most_words, most_leaves) and holds_nowhere(text, head, sources):
            return name, tuple(head), text


def random_carrying(rng, sources):
    rows = []
    for name in rng.sample(['tie', 'row', 'c3'], rng.randint(1, 3)):
        rows.append(random_led(rng, sources, name, rng.sample(['x', 'y', 'b'], rng.randint(0, 2))))
    return sources, tuple(rows)
