"""What the tests measure keepers and books by: texts read and changes done the plainest way.

Nothing here uses how the program reads a keeper's text or does a change.
"""

import itertools
import re

from tests.plain import KEYWORDS, first_wrong, is_plain_name, rows_over, tree

TABLE = re.compile(r'(told|kept) (\S+) ([0-3])')
SECTION = re.compile(r'(put|strike) (\S+)')


def words_of(line):
    return line.split(' ')


def parts_of(line):
    """(first word, name or None, head, text) of a line `first`, `let`, `set`, `answer`, `wish` or `bar`; else None."""
    words = words_of(line)
    if words[0] == 'bar':
        return 'bar', None, (), ' '.join(words[1:])
    if 'is' not in words:
        return None
    at = words.index('is')
    if words[0] in ('answer', 'wish'):
        return words[0], None, tuple(words[1:at]), ' '.join(words[at + 1:])
    if words[0] in ('first', 'let', 'set') and at >= 2:
        return words[0], words[1], tuple(words[2:at]), ' '.join(words[at + 1:])
    return None


def tables_in(lines, word):
    return {words_of(line)[1]: int(words_of(line)[2]) for line in lines if words_of(line)[0] == word}


def section_of(lines):
    """The lines of the last section, None if there is none."""
    for at in range(len(lines) - 1, -1, -1):
        if words_of(lines[at])[0] in ('put', 'strike'):
            return lines[at:]
    return None


def is_asked(text, head, tables, changed, loops=False):
    """Whether text is a question of this head over these tables."""
    if len(head) > 3 or len(set(head)) < len(head):
        return False
    if not all(is_plain_name(name) and name not in tables for name in head):
        return False
    if not loops and 'reach' in text.split(' '):
        return False
    return first_wrong(text, head, tuple(tables.items()), changed) is None


def can_stand(ahead, line):
    """Whether a line can stand behind these, that all can stand."""
    told, kept = tables_in(ahead, 'told'), tables_in(ahead, 'kept')
    names = [words_of(other)[0] for other in ahead]
    last = names[-1] if names else None
    both = {**told, **kept}
    if len(ahead) >= 1000:
        return False
    if words_of(line)[0] in ('told', 'kept'):
        match = TABLE.fullmatch(line)
        if not match or not is_plain_name(match[2]) or match[2] in both:
            return False
        if match[1] == 'told':
            return last in (None, 'told') and len(told) < 3 and match[3] != '3'
        return last in ('told', 'kept') and len(kept) < 16
    if not told or last == 'wish':
        return False
    if SECTION.fullmatch(line):
        return SECTION.fullmatch(line)[2] in told and line not in ahead and last != 'answer'
    parts = parts_of(line)
    if parts is None:
        return False
    word, name, head, text = parts
    if word == 'wish':
        if last != 'answer' or len(head) != len(parts_of(ahead[-1])[2]):
            return False
        return is_asked(text, head, both, 0, True) and not set(kept) & set(text.split(' '))
    if last == 'answer':
        return False
    if word == 'answer':
        return is_asked(text, head, both, 0)
    if word == 'first':
        if last not in ('kept', 'first') or name not in kept or len(head) != kept[name]:
            return False
        twice = [other for other in ahead if words_of(other)[:2] == ['first', name]]
        return not twice and is_asked(text, head, both, 0) and not set(both) & set(text.split(' '))
    return stands_in_section(section_of(ahead), parts, told, kept)


def stands_in_section(section, parts, told, kept):
    if section is None:
        return False
    word, name, head, text = parts
    lets = {parts_of(line)[1]: len(parts_of(line)[2]) for line in section if words_of(line)[0] == 'let'}
    tables = {**told, **kept, **lets}
    if word == 'let' and (not is_plain_name(name) or name in tables or len(lets) == 200):
        return False
    if word == 'set':
        if name not in kept or len(head) != kept[name]:
            return False
        if any(words_of(line)[:2] == ['set', name] for line in section):
            return False
    return is_asked(text, head, tables, told[words_of(section[0])[1]])


def plain_number(text):
    """The number that is refused, None if none is."""
    if not isinstance(text, str):
        return 0
    lines = text.split('\n')
    for at, line in enumerate(lines):
        if not can_stand(lines[:at], line):
            return at + 1
    return None if any(line.startswith('answer ') for line in lines) else len(lines) + 1


class PlainBook:
    """A book of a keeper's text, done the plainest way."""

    def __init__(self, text, n):
        self.lines = text.split('\n')
        self.n = n
        self.told = tables_in(self.lines, 'told')
        self.kept = tables_in(self.lines, 'kept')
        self.rows = {name: set() for name in [*self.told, *self.kept]}
        self.lets = {}
        self.changes = []
        for line in self.lines:
            if words_of(line)[0] == 'first':
                _, name, head, text = parts_of(line)
                self.rows[name] = set(self.ask(head, text, self.rows, ()))

    def ask(self, head, text, rows, row):
        """The rows of places of the head for which a text holds, told, kept tables and lets having these rows."""
        tables = {**self.told, **self.kept, **self.lets}
        store = tuple((name, tuple(rows[name])) for name in rows)
        return rows_over(head, tree(text, tuple(tables.items())), self.n, store, row)

    def section(self, word, name):
        """(number, line) of the lines of a section."""
        found = []
        if f'{word} {name}' in self.lines:
            first = self.lines.index(f'{word} {name}') + 1
            for at in range(first, len(self.lines)):
                if words_of(self.lines[at])[0] not in ('let', 'bar', 'set'):
                    break
                found.append((at + 1, self.lines[at]))
        return found

    def do(self, change):
        """True or False as a Book does, or the number of the line that bars the change."""
        word, name, row = change
        if (row in self.rows[name]) == (word == 'put'):
            self.changes.append(change)
            return False
        as_they_were = {table: set(rows) for table, rows in self.rows.items()}
        fresh = {}
        self.lets = {}
        for number, line in self.section(word, name):
            kind, table, head, text = parts_of(line)
            told = self.ask(head, text, as_they_were, row)
            if kind == 'bar' and told:
                return number
            if kind == 'let':
                self.lets[table] = len(head)
                as_they_were[table] = set(told)
            elif kind == 'set':
                fresh[table] = set(told)
        if word == 'put':
            self.rows[name].add(row)
        else:
            self.rows[name].remove(row)
        self.rows.update(fresh)
        self.changes.append(change)
        return True

    def told_by(self, word):
        """The rows of the answer or the wish, None if there is no such line."""
        self.lets = {}
        for line in self.lines:
            if words_of(line)[0] == word:
                _, _, head, text = parts_of(line)
                return self.ask(head, text, self.rows, ())
        return None

    def store_of(self, tables):
        return tuple((name, tuple(sorted(self.rows[name]))) for name in tables)


def random_change(rng, told, n):
    name, many = rng.choice(told)
    return rng.choice(['put', 'put', 'strike']), name, tuple(rng.randrange(n) for _ in range(many))


def all_changes(told, n):
    return [
        (word, name, row) for word in ('put', 'strike') for name, many in told
        for row in itertools.product(range(n), repeat=many)
    ]


def taken_words():
    """Words that are no NAMES."""
    return list(KEYWORDS) + ['', '1a', 'A', 'a_', 'abcdefg', '0', '-']
