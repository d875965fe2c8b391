"""Sections 3 (f) and 12: carried keepers, beside a Book of the keeper to which the rows are told that changes turn."""

import random
import unittest

from tests.drawn_keepers import random_keeper_text
from tests.plain import plain_deep, rows_over, tree
from tests.plain_carrying import behind, plain_led, plain_turned, random_led
from tests.plain_keepers import PlainBook, parts_of, random_change
from tests.test_makers import swapped
from withoutloops.books import Book, booked, is_right
from withoutloops.carrying import bound_of
from withoutloops.errors import Barred
from withoutloops.going import going_keeper
from withoutloops.keepers import Keeper
from withoutloops.makers import carried, with_answer
from withoutloops.numbers import number_keeper
from withoutloops.webs import least_keeper, side_keeper, web_keeper

ROW, IN, ODD = ('row', 2), ('in', 1), ('odd', 0)
HEADS = [(), ('x',), ('x', 'y')]

# Texts that lead rows of two places, of one and of none, none of them turning rows without end.
LEADS = {
    2: ['row x y', 'row y x', 'or row x y row y x', 'and row x y row y x', 'and row x y not row y x', 'and same x y row x y',
        'and less x y or row x y row y x', 'or and less x y row x y and less y x row x y', 'and row x y not same x y', 'no',
        'or and row x y not row y x and row y x not row x y', 'and same x y in x', 'and same x y not or row x x not in x'],
    1: ['row x x', 'in x', 'and in x not row x x', 'or in x row x x', 'and row x x not in x', 'no'],
    0: ['odd', 'no', 'not not odd'],
}
SOURCES = [(ROW,), (IN,), (ROW, IN), (IN, ROW), (ROW, ODD), (ODD, IN), (ROW, ('sow', 2)), (('up1', 1), IN)]


def told_rows(strikes, puts, told, row):
    """The changes that are told, in sequence: strikes, then puts, by tables, by where places stand first in the row."""
    tables = [name for name, _ in told]

    def place_of(turned):
        return tables.index(turned[0]), [row.index(place) for place in turned[1]]

    return [
        (word, *turned) for word, some in (('strike', strikes), ('put', puts)) for turned in sorted(some, key=place_of)
    ]


class Target:
    """The Book beside a carried one, to which the rows are told that each change turns, plainly."""

    def __init__(self, keeper, carrying, n):
        self.carrying, self.n = carrying, n
        self.book = Book(keeper, n)
        self.store = tuple((name, ()) for name, _ in carrying[0])
        self.most = 0

    def do(self, change):
        """Whether the change is not barred; how many rows it turns is kept."""
        strikes, puts = plain_turned(self.carrying, self.n, self.store, change)
        tried = self.book.copy()
        for told in told_rows(strikes, puts, self.book.keeper.told, change[2]):
            try:
                assert tried.do(told)
            except Barred:
                return False
        self.book, self.store = tried, behind(self.store, change)
        self.most = max(self.most, len(strikes) + len(puts))
        assert self.book.store == plain_led(self.carrying, self.n, self.store)
        return True


def led_text(text, tables, leads):
    """A question's text with the texts that lead rows in the place of the words of tables."""
    def written(part):
        word, places, bound, within = part
        if word in leads:
            head, led = leads[word]
            names = dict(zip(head, places))
            return ' '.join(names.get(one, one) for one in led.split(' '))
        return ' '.join([word, *places, *bound, *[written(inner) for inner in within]])

    return written(tree(text, tables))


def is_small_enough(keeper, carrying):
    """Whether the answer and the wish have at most 100 words, and are at most 14 deep, with what leads rows in them."""
    leads = {name: (head, text) for name, head, text in carrying[1]}
    for line in keeper.text.split('\n'):
        if line.split(' ')[0] in ('answer', 'wish'):
            text = led_text(parts_of(line)[3], keeper.told + keeper.kept, leads)
            if len(text.split(' ')) > 100 or plain_deep(tree(text, carrying[0] + keeper.kept)) > 14:
                return False
    return True


class Checks(unittest.TestCase):
    def setUp(self):
        self.met = []
        self.most = []

    def check_same(self, book, target):
        self.assertEqual((book.store, book.kept, book.answer), (target.store, target.book.kept, target.book.answer))
        if book.keeper.has_wish:
            self.assertEqual(book.wished(), target.book.wished())
            self.assertIs(is_right(book), is_right(target.book))

    def check_history(self, rng, keeper, carrying, n, many):
        made = carried(keeper, carrying)
        self.assertEqual((made.told, made.kept, made.has_wish), (carrying[0], keeper.kept, keeper.has_wish))
        self.assertEqual(Keeper(made.text), made)
        book, target = Book(Keeper(made.text), n), Target(keeper, carrying, n)
        self.check_same(book, target)
        for _ in range(many):
            change = random_change(rng, made.told, n)
            ahead = book.copy()
            idle = behind(target.store, change) == target.store
            if target.do(change):
                self.assertIs(book.do(change), not idle)
            else:
                with self.assertRaises(Barred):
                    book.do(change)
                self.assertEqual(book, ahead)
            self.met.append(len(book) > len(ahead))
            self.check_same(book, target)
        self.most.append(target.most)
        return book


class Drawn(Checks):
    def lead(self, rng, sources, name, many):
        """A table led by a drawn text, or by one of those above."""
        names = [table for table, _ in sources]
        fitting = [text for text in LEADS[many] if not {'row', 'in', 'odd'} & set(text.split(' ')) - set(names)]
        if rng.random() < 0.4:
            return random_led(rng, sources, name, HEADS[many], 16, 4)
        return name, HEADS[many], rng.choice(fitting)

    def carrying_for(self, rng, keeper, sources):
        while True:
            carrying = sources, tuple(self.lead(rng, sources, name, many) for name, many in keeper.told)
            if bound_of(carrying) is not None:
                return carrying

    def draw(self, rng, n, many):
        keeper = Keeper(random_keeper_text(rng))
        carrying = self.carrying_for(rng, keeper, rng.choice(SOURCES))
        if is_small_enough(keeper, carrying):
            self.check_history(rng, keeper, carrying, n, many)

    def test_drawn_keepers(self):
        rng = random.Random(21)
        for _ in range(160):
            self.draw(rng, rng.randint(1, 4), 7)
        for told in (True, False):
            self.assertGreater(self.met.count(told), 25)
        for many in (0, 1, 2, 3):
            self.assertIn(many, self.most)

    def test_names_of_sources_that_the_keeper_binds(self):
        rng = random.Random(22)
        for names in ({'row': 'x', 'in': 'l0'}, {'row': 'l1', 'in': 'u'}, {'row': 'x0', 'in': 'x1'}, {'row': 'tie', 'in': 'flag'}):
            for _ in range(12):
                keeper = Keeper(random_keeper_text(rng))
                sources, rows = self.carrying_for(rng, keeper, (ROW, IN))
                new = tuple((names[name], many) for name, many in sources)
                heads = {(): (), ('x',): ('c',), ('x', 'y'): ('c', 'd')}
                words = {**names, 'x': 'c', 'y': 'd'}
                texts = [' '.join(words.get(word, word) for word in text.split(' ')) for _, _, text in rows]
                carrying = new, tuple((name, heads[head], text) for (name, head, _), text in zip(rows, texts))
                if is_small_enough(keeper, carrying):
                    self.check_history(rng, keeper, carrying, 2, 8)

    def test_keepers_whose_names_are_swapped(self):
        rng = random.Random(23)
        for names in ({'go': 'l0', 'up': 'x0'}, {'mid': 'l2', 'even': 'x1', 'up': 'l1', 'go': 'x2'}):
            for _ in range(12):
                keeper = Keeper(swapped(random_keeper_text(rng), names))
                carrying = self.carrying_for(rng, keeper, rng.choice(SOURCES))
                if is_small_enough(keeper, carrying):
                    self.check_history(rng, keeper, carrying, 2, 8)


class Told(Checks):
    """The keepers of sections 8, 9 and 10."""

    TIES = ['and less x y or row x y row y x', 'and less x y and row x y row y x', 'and less y x row y x',
            'and less x y row x y', 'and row x y row y x', 'and less x y not or not row x y row y x']

    def test_webs(self):
        rng = random.Random(24)
        for keeper in (web_keeper(), side_keeper(), least_keeper()):
            for text in self.TIES:
                carrying = (ROW,), (('tie', ('x', 'y'), text),)
                if not is_small_enough(keeper, carrying):
                    keeper = with_answer(keeper, ('x', 'y'), 'tree x y')
                book = self.check_history(rng, keeper, carrying, rng.randint(2, 4), 14)
                if keeper.has_wish:
                    self.assertTrue(is_right(book))
        self.assertGreater(self.met.count(True), 100)
        for keeper in (web_keeper(), with_answer(least_keeper(), ('x', 'y'), 'tree x y')):
            two = (ROW, ('sow', 2)), (('tie', ('a', 'b'), 'and less a b or row a b sow b a'),)
            self.check_history(rng, keeper, two, 3, 14)

    def test_ties_both_ways(self):
        # Of (1, 0), (0, 1) the bar stops that which is told first: all puts of two places.
        book = self.check_history(random.Random(25), web_keeper(), ((ROW,), (('tie', ('x', 'y'), 'or row x y row y x'),)), 3, 20)
        self.assertEqual(len(book.store[0][1]), 0)

    def test_going(self):
        rng = random.Random(26)
        for text in LEADS[2][:10]:
            self.assertTrue(is_right(self.check_history(rng, going_keeper(), ((ROW,), (('row', ('x', 'y'), text),)), 3, 16)))

    def test_numbers(self):
        rng = random.Random(27)
        for text in ('in x', 'row x x'):
            carrying = (ROW, IN), (('in', ('x',), text),)
            if number_keeper().told == (('in', 1),) and not set(dict(number_keeper().kept)) & {'row', 'in'}:
                self.check_history(rng, number_keeper(), carrying, 3, 12)

    def test_what_turns_two_and_more_rows(self):
        """Strikes are told first, then puts; tables by sequence, rows by where places stand first in the changed row."""
        lines = ['told tie 2', 'told up 2', 'kept last 2', 'kept came 2', 'kept went 2', 'kept tell 0']
        for word, name in (('put', 'tie'), ('put', 'up'), ('strike', 'tie'), ('strike', 'up')):
            kept = 'came' if word == 'put' else 'went'
            lines += [f'{word} {name}', 'set last x y is and same x p same y q', f'set {kept} x y is or and {kept} x y tie x y '
                      'and same x p same y q', 'set tell is some x some y and last x y not less p q']
        keeper = Keeper('\n'.join(lines + ['answer x y is or last x y and tell up x y']))
        rng = random.Random(28)
        for one, other in (('row x y', 'row y x'), ('or row x y row y x', 'and row x y not row y x'),
                           ('and row x y not row y x', 'or row x y row y x'), ('and row x y row y x', 'and row y x not row x y'),
                           ('or row x y row y x', 'or row y x row x y')):
            carrying = (ROW,), (('tie', ('x', 'y'), one), ('up', ('x', 'y'), other))
            self.check_history(rng, keeper, carrying, 3, 30)
        self.assertEqual(max(self.most), 4)

    def test_six_rows_at_once(self):
        lines = ['told a 2', 'told b 2', 'told c 2', 'kept even 2', 'kept last 2']
        for word in ('put', 'strike'):
            for name in ('a', 'b', 'c'):
                lines += [f'{word} {name}', 'set last x y is and same x p same y q',
                          'set even x y is or and even x y not last x y and not even x y and last x y a q p']
        keeper = Keeper('\n'.join(lines + ['answer x y is and even x y not b x y', 'wish x y is and a x y b y x']))
        rows = tuple((name, ('x', 'y'), 'or row x y row y x') for name in ('a', 'b', 'c'))
        self.check_history(random.Random(29), keeper, ((ROW,), rows), 3, 20)
        self.assertEqual(max(self.most), 6)

    def test_a_bar_behind_what_was_told_ahead(self):
        """The second row is barred as the first one stands by then: nothing changes in either."""
        keeper = Keeper('told tie 2\nkept many 1\nput tie\nbar tie q p\nset many x is same x p\nanswer x is many x')
        book = booked(carried(keeper, ((ROW,), (('tie', ('x', 'y'), 'or row x y row y x'),))), 2, (('put', 'row', (1, 1)),))
        with self.assertRaises(Barred):
            book.put('row', (0, 1))
        self.assertEqual((book.store, book.kept, len(book)), ((('row', ((1, 1),)),), (('many', ((1,),)),), 1))


class More(Checks):
    def test_without_sections(self):
        keeper = Keeper('told tie 2\nkept stay 1\nfirst stay x is yes\nanswer x is some y tie x y\nwish x is some y tie y x')
        self.check_history(random.Random(31), keeper, ((ROW,), (('tie', ('y', 'x'), 'row x y'),)), 3, 12)

    def test_yes_or_no(self):
        keeper = Keeper('told a 0\ntold b 0\nkept odd 0\nput a\nset odd is not odd\nstrike b\nset odd is b\nanswer is odd')
        carrying = (('on', 0), ('off', 0)), (('a', (), 'and on not off'), ('b', (), 'or on off'))
        self.check_history(random.Random(32), keeper, carrying, 1, 40)

    def test_greatest_texts_that_are_specified(self):
        """Sections of eight lines, questions of seventy words and twelve deep, texts of sixteen words and five deep."""
        deep = ' '.join(['not'] * 10 + ['tie x y'])
        long = ' '.join(['or tie x y'] * 9 + ['or mid x y p'] * 7 + ['no'])
        self.assertLessEqual(len(long.split(' ')), 72)
        lines = ['told tie 2', 'kept mid 3', 'kept go 2']
        for word in ('put', 'strike'):
            lines += [f'{word} tie', 'let a x y is ' + deep, 'let b x y is and a x y not same x p', 'bar and tie q p mid p q p',
                      'let c x y is or b x y not not b y x', 'set go x y is or c x y go y x', 'let d x is some y c x y',
                      'set mid x y z is or and mid x y z d x and same x p same z q', 'bar every x d x']
        keeper = Keeper('\n'.join(lines + ['answer x y is or go x y tie x y', 'wish x y is reach x y u v tie u v']))
        text = 'or and row x y not sow x y and row y x sow y x'
        self.assertLessEqual(len(text.split(' ')), 16)
        self.check_history(random.Random(33), keeper, ((ROW, ('sow', 2)), (('tie', ('x', 'y'), text),)), 3, 25)
        self.assertGreater(self.met.count(True), 3)

    def test_of_one_with_another_answer(self):
        keeper = with_answer(web_keeper(), (), 'every x every y mid x y x')
        carrying = (ROW,), (('tie', ('x', 'y'), 'and less x y or row x y row y x'),)
        self.check_history(random.Random(34), keeper, carrying, 3, 12)

    def test_wishes_with_loops(self):
        keeper = Keeper('told in 1\ntold tie 2\nanswer x is in x\nwish x is some y and in y reach x y u v or tie u v tie v u')
        carrying = (ROW, IN), (('in', ('u',), 'in u'), ('tie', ('v', 'u'), 'and row u v less v u'))
        self.check_history(random.Random(35), keeper, carrying, 4, 12)

    def test_plain_books_of_its_text(self):
        """What it does is what its own lines tell, done plainly."""
        made = carried(going_keeper(), ((ROW,), (('row', ('x', 'y'), 'and row x y not row y x'),)))
        rng = random.Random(36)
        book, plain = Book(made, 2), PlainBook(made.text, 2)
        for _ in range(12):
            change = random_change(rng, made.told, 2)
            self.assertIs(book.do(change), plain.do(change))
            self.assertEqual(book.kept, plain.store_of([name for name, _ in made.kept]))
            self.assertEqual(book.answer, rows_over(('x', 'y'), tree('go x y', made.told + made.kept), 2, book.store + book.kept, ()))
