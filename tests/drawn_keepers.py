"""Keepers drawn for the tests."""

from tests.plain import random_text


def question_text(rng, tables, alive, most_deep=3, loops=False):
    while True:
        text = random_text(rng, tables, alive, most_deep, loops)
        if len(text.split(' ')) <= 18:
            return text


def section_lines(rng, word, name, many, tables, kept):
    """The lines of a section: lets, bars and sets mixed."""
    changed = ['p', 'q', 'r'][:many]
    lines = [f'{word} {name}']
    lets = []
    unset = list(kept)
    rng.shuffle(unset)
    for at in range(rng.randint(0, 5)):
        standing = tables + lets
        kind = rng.choice(['let', 'let', 'bar', 'set', 'set'])
        if kind == 'set' and unset:
            table, places = unset.pop()
            head = ['x', 'y', 'z'][:places]
            lines.append(' '.join(['set', table, *head, 'is', question_text(rng, standing, head + changed)]))
        elif kind == 'let':
            head = ['y', 'x', 'b'][:rng.randint(0, 2)]
            lines.append(' '.join(['let', f'l{at}', *head, 'is', question_text(rng, standing, head + changed)]))
            lets.append((f'l{at}', len(head)))
        elif kind == 'bar':
            # Bars that hold now and then, not nearly always.
            lines.append(f'bar and {question_text(rng, standing, changed, 2)} {question_text(rng, standing, changed, 2)}')
    return lines


def random_keeper_text(rng):
    told = rng.sample([('row', 2), ('in', 1), ('flag', 0), ('tie', 2)], rng.randint(1, 3))
    kept = rng.sample([('go', 2), ('up', 1), ('even', 0), ('mid', 3)], rng.randint(0, 3))
    tables = told + kept
    lines = [f'told {name} {many}' for name, many in told] + [f'kept {name} {many}' for name, many in kept]
    for name, many in kept:
        if rng.random() < 0.5:
            head = ['x', 'y', 'z'][:many]
            lines.append(' '.join(['first', name, *head, 'is', question_text(rng, [], head)]))
    sections = [(word, name, many) for word in ('put', 'strike') for name, many in told]
    for word, name, many in rng.sample(sections, rng.randint(1, len(sections))):
        lines += section_lines(rng, word, name, many, tables, kept)
    head = ['x', 'y'][:rng.randint(0, 2)]
    lines.append(' '.join(['answer', *head, 'is', question_text(rng, tables, head)]))
    if rng.random() < 0.6:
        lines.append(' '.join(['wish', *head, 'is', question_text(rng, told, head, 3, True)]))
    return '\n'.join(lines)
