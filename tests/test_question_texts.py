"""Section 4: which texts are questions, and the number of the word that is refused."""

import itertools
import random
import unittest

from tests.plain import first_wrong, plain_deep, random_asked, tree
from withoutloops.asks import Question
from withoutloops.errors import BadQuestion

TABLES = (('row', 2), ('in', 1), ('odd', 0), ('mid', 3))
HEAD = ('x', 'y')

# A question of each form of the table, and how deep it is.
FORMS = [
    ('yes', 1), ('no', 1), ('same x y', 1), ('less x x', 1), ('odd', 1), ('in x', 1), ('row x y', 1),
    ('mid x y x', 1), ('not yes', 2), ('and yes in x', 2), ('or not no odd', 3), ('some u in u', 2),
    ('every u row u x', 2), ('reach x y u v row u v', 2),
]


def number_of(text, head=HEAD, tables=TABLES, changed=0):
    """What BadQuestion tells, None if the text is a question."""
    try:
        Question(head, text, tables, changed)
    except BadQuestion as error:
        return error.value
    return None


class Forms(unittest.TestCase):
    def test_each_form(self):
        for text, deep in FORMS:
            with self.subTest(text):
                question = Question(HEAD, text, TABLES, 0)
                self.assertEqual((question.text, question.deep), (text, deep))
                self.assertIs(question.is_loopless, 'reach' not in text)

    def test_each_form_within_others(self):
        outer = [
            ('not {}', 1), ('and odd {}', 1), ('and {} yes', 1), ('or in y {}', 1), ('some a {}', 1),
            ('every x {}', 1), ('reach x x b c {}', 1), ('or and yes not {} no', 3),
        ]
        for (words, more), (text, deep) in itertools.product(outer, FORMS):
            whole = words.format(text)
            with self.subTest(whole):
                question = Question(HEAD, whole, TABLES, 0)
                self.assertEqual(question.deep, max(deep + more, 2))
                self.assertIs(question.is_loopless, 'reach' not in whole)

    def test_a_word_of_each_form_left_out_or_too_many(self):
        for text, _ in FORMS:
            words = text.split(' ')
            with self.subTest(text):
                self.assertEqual(number_of(text + ' yes'), len(words) + 1)
                self.assertEqual(number_of(text + ' x'), len(words) + 1)
                self.assertEqual(number_of(text + ' zz'), len(words) + 1)
                for many in range(1, len(words)):
                    self.assertEqual(number_of(' '.join(words[:many])), many + 1)

    def test_told_numbers(self):
        told = [
            ('row x', 3), ('row x z', 3), ('row z x', 2), ('row x y x', 4), ('and yes', 3), ('yes no', 2), ('', 1),
            ('some row yes', 2), ('some same yes', 2), ('some p yes', 2), ('some q yes', 2), ('some r yes', 2),
            ('some x', 3), ('some', 2), ('some u', 3), ('some u in v', 4), ('some set yes', 2), ('some Is yes', 2),
            ('some 1a yes', 2), ('some a234567 yes', 2), ('some a23456 yes', None), ('some told yes', 2),
            ('less x p', 3), ('same x row', 3), ('same yes x', 2), ('same', 2), ('same x', 3), ('odd x', 2),
            ('mid x y', 4), ('mid x y u', 4), ('x', 1), ('tie', 1), ('told', 1), ('put', 1), ('p', 1), ('YES', 1),
            ('not', 2), ('not not', 3), ('not x', 2), ('or yes', 3), ('or yes no no', 4), ('and or yes no', 5),
            ('reach', 2), ('reach x', 3), ('reach x y', 4), ('reach x y u', 5), ('reach x y u v', 6),
            ('reach x y u u yes', 5), ('reach u y u v yes', 2), ('reach x v u v yes', 3), ('reach x y p v yes', 4),
            ('reach x y u q yes', 5), ('reach x y in v yes', 4), ('reach x y u row yes', 5),
            ('reach x y x y row x y', None), ('reach x y u v row u v yes', 9), ('reach x y u v row u w', 8),
        ]
        for text, number in told:
            with self.subTest(text):
                self.assertEqual(number_of(text), number)

    def test_names_are_alive_where_they_are_bound(self):
        told = [
            ('and some u in u in u', 7), ('and in u some u in u', 3), ('or every u in u row u x', 7),
            ('some u some u in u', None), ('some u and some u in u in u', None), ('some x in x', None),
            ('and reach x y u v row u v in u', 11), ('and reach x y u v row u v in v', 11),
            ('some u reach u x u v row u v', None), ('reach x y u v reach u v u v row u v', None),
            ('reach x y u v reach u w w v yes', 8), ('reach x y u v reach w v w v yes', 7),
            ('or some u in u some v in u', 9), ('some u or in u some v and in u in v', None),
        ]
        for text, number in told:
            with self.subTest(text):
                self.assertEqual(number_of(text), number)
                self.assertEqual(first_wrong(text, HEAD, TABLES, 0), number)

    def test_places_of_a_changed_row(self):
        for changed in range(4):
            for at, name in enumerate('pqr'):
                number = None if at < changed else 2
                self.assertEqual(number_of(f'in {name}', changed=changed), number)
                self.assertEqual(number_of(f'reach {name} x u v yes', changed=changed), number)
                self.assertEqual(number_of(f'some u row u {name}', changed=changed), number and 5)
                self.assertEqual(number_of(f'some {name} yes', changed=changed), 2)
                self.assertEqual(number_of(f'reach x x u {name} yes', changed=changed), 5)
        self.assertIsNone(number_of('mid p q r', head=(), changed=3))
        self.assertEqual(number_of('mid p q r', head=(), changed=2), 4)

    def test_names_of_tables_are_no_names_of_places(self):
        for name, _ in TABLES:
            self.assertEqual(number_of(f'some {name} yes'), 2)
            self.assertEqual(number_of(f'reach x y {name} v yes'), 4)
            self.assertEqual(number_of(f'reach x y u {name} yes'), 5)
            self.assertEqual(number_of(f'in {name}'), 2)
        self.assertIsNone(number_of('some tie in tie'))

    def test_without_a_head_no_name_is_alive(self):
        self.assertIsNone(number_of('odd', head=()))
        self.assertEqual(number_of('in x', head=()), 2)
        self.assertEqual(number_of('same', head=()), 2)
        self.assertIsNone(number_of('some x in x', head=()))

    def test_without_tables(self):
        self.assertEqual(number_of('row x y', tables=()), 1)
        self.assertIsNone(number_of('some row same row x', tables=()))


class Blanks(unittest.TestCase):
    def test_words_without_signs(self):
        told = [
            ('', 1), (' ', 1), ('  ', 1), (' yes', 1), ('yes ', 2), ('not  yes', 2), ('not ', 2), ('in  x', 2),
            ('in x ', 3), ('in x  ', 3), ('some  u yes', 2), ('and yes  no', 3), ('and yes no ', 4),
        ]
        for text, number in told:
            with self.subTest(repr(text)):
                self.assertEqual(number_of(text), number)

    def test_line_feeds_part_no_words(self):
        told = [('\n', 1), ('yes\n', 1), ('\nyes', 1), ('not\nyes', 1), ('not yes\n', 2), ('in\nx', 1), ('in x\n', 2),
                ('some u\n in u', 2), ('some u in u\n', 4), ('in\tx', 1), ('yes\nno', 1)]
        for text, number in told:
            with self.subTest(repr(text)):
                self.assertEqual(number_of(text), number)

    def test_what_is_no_string(self):
        for text in (None, True, False, 0, 1, (), ('yes',), ['yes'], {'yes': 1}, Question((), 'yes', (), 0)):
            with self.subTest(text):
                number = number_of(text)
                self.assertEqual(number, 0)
                self.assertIsInstance(number, int)
                self.assertNotIsInstance(number, bool)


def wide_text(words, last='yes'):
    """A question of so many words, odd and at most 127, as shallow as can be."""
    if words == 1:
        return last
    half = (words - 1) // 2
    one = half if half % 2 else half - 1
    return f'or {wide_text(one)} {wide_text(words - 1 - one, last)}'


class Bounds(unittest.TestCase):
    def test_a_hundred_words(self):
        hundred = 'not ' + wide_text(99)
        self.assertEqual(len(hundred.split(' ')), 100)
        self.assertIsNone(number_of(hundred))
        self.assertEqual(Question(HEAD, hundred, TABLES, 0).text, hundred)

    def test_a_hundred_and_one(self):
        many = wide_text(101)
        self.assertEqual(len(many.split(' ')), 101)
        self.assertEqual(number_of(many), 101)

    def test_the_word_behind_the_hundredth(self):
        for last in ('not yes', 'in x', 'row x y', 'some u in u', 'reach x y u v row u v', 'nothing'):
            for words in (93, 95, 97, 99):
                text = wide_text(words, last)
                with self.subTest(text[-30:]):
                    self.assertEqual(number_of(text), first_wrong(text, HEAD, TABLES, 0))
                    self.assertEqual(number_of('not ' + text), first_wrong('not ' + text, HEAD, TABLES, 0))
        self.assertEqual(number_of('not ' + wide_text(99, 'in x')), 101)
        self.assertEqual(number_of('not ' + wide_text(99, 'nothing')), 100)

    def test_too_many_words_but_an_earlier_one_is_wrong(self):
        self.assertEqual(number_of('not ' * 5 + 'x ' + wide_text(101)), 6)
        self.assertEqual(number_of('yes ' * 200), 2)
        self.assertEqual(number_of(wide_text(99) + ' yes yes'), 100)
        self.assertEqual(number_of('not ' + wide_text(99) + ' yes'), 101)

    def test_a_hundred_words_that_end_too_early(self):
        early = 'and ' + wide_text(99)
        self.assertEqual(number_of(early), 101)
        self.assertEqual(number_of(early + ' yes'), 101)
        self.assertEqual(number_of(wide_text(99, 'not')), 100)
        self.assertEqual(number_of('not ' + wide_text(99, 'not')), 101)

    def test_fourteen_deep(self):
        # Behind the number of words that refuses the fourteenth of each, as the next one stands within fourteen.
        told = [
            ('not', '', 15), ('some u', '', 29), ('every u', '', 29), ('and yes', '', 28), ('or', ' no', 15),
            ('reach x y u v', '', 71),
        ]
        for word, ends, number in told:
            for leaf in ('yes', 'odd', 'in x', 'same x y'):
                deep = f'{word} ' * 13 + leaf + ends * 13
                with self.subTest(deep):
                    self.assertEqual(Question(HEAD, deep, TABLES, 0).deep, 14)
                    self.assertEqual(number_of(f'{word} ' * 14 + leaf + ends * 14), number)

    def test_the_word_within_fourteen_others_is_refused_itself(self):
        self.assertEqual(number_of('not ' * 14), 15)
        self.assertEqual(number_of('not ' * 13 + 'not'), 15)
        self.assertEqual(number_of('not ' * 20 + 'yes'), 15)
        self.assertEqual(number_of('not ' * 13 + 'or yes yes'), 15)
        self.assertEqual(number_of('not ' * 13 + 'and x yes'), 15)
        self.assertEqual(number_of('not ' * 13 + 'some p yes'), 15)
        self.assertEqual(number_of('not ' * 13 + 'some u yes'), 16)
        self.assertEqual(number_of('not ' * 13 + 'reach x y u v yes'), 19)
        self.assertEqual(number_of('not ' * 12 + 'or yes not yes'), 16)

    def test_how_deep_it_is_hangs_on_the_deepest(self):
        told = [('or not not yes no', 4), ('or yes not not no', 4), ('and some u some v row u v every w in w', 4)]
        for text, deep in told:
            self.assertEqual(Question(HEAD, text, TABLES, 0).deep, deep)


class Beside(unittest.TestCase):
    """The number that is told, beside one that is told by a list of what is still to come."""

    def check(self, text, head, tables, changed):
        told = first_wrong(text, head, tables, changed)
        self.assertEqual(number_of(text, head, tables, changed), told, (text, head, tables, changed))
        return told

    def test_all_short_texts(self):
        words = ('yes', 'same', 'not', 'or', 'some', 'reach', 'in', 'x', 'p', 'q', 'u', '', 'is')
        right = 0
        for many in range(1, 5):
            for some in itertools.product(words, repeat=many):
                right += self.check(' '.join(some), ('x',), (('in', 1),), 1) is None
        self.assertGreater(right, 30)

    def test_questions_with_a_word_otherwise(self):
        rng = random.Random(41)
        vocabulary = ('yes no same less not and or some every reach row in odd mid x y b p q r u v a1 z is told '
                      'X 1a Yes').split() + ['', 'x\n']
        numbers = set()
        for _ in range(3000):
            question, _, _ = random_asked(rng, 2, rng.randint(1, 7), rng.random() < 0.5)
            words = question.text.split(' ')
            at = rng.randrange(len(words))
            texts = [
                words, words[:at] + [rng.choice(vocabulary)] + words[at + 1:], words[:at] + words[at + 1:],
                words[:at] + [words[at]] + words[at:], words + [rng.choice(vocabulary)], words[:at],
                words[:at] + [rng.choice(vocabulary)] + words[at:],
            ]
            self.assertEqual(question.deep, plain_deep(tree(question.text, question.tables)))
            for some in texts:
                numbers.add(self.check(' '.join(some), question.head, question.tables, question.changed))
        self.assertIn(None, numbers)
        self.assertGreater(len(numbers), 30)
