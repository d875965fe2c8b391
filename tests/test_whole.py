"""Section 3: what holds over the whole program. One history at Books, at a bench, as a far history: all tell the same."""

import random
import unittest

from tests.drawn_keepers import random_keeper_text
from tests.plain_keepers import random_change
from withoutloops.benches import Bench
from withoutloops.books import Book, booked, first_wrong, is_right
from withoutloops.desk import Desk
from withoutloops.engines import answered, joined
from withoutloops.errors import Barred
from withoutloops.far import again_after, answer_behind, behind, many
from withoutloops.going import going_keeper
from withoutloops.journals import journal, read_journal
from withoutloops.judging import judged, on_road, parted, shows_on_road, shows_parted
from withoutloops.keepers import Keeper
from withoutloops.makers import beside, carried, differs, with_answer
from withoutloops.numbers import number_keeper
from withoutloops.rewriting import few_names, pushed
from withoutloops.webs import least_keeper, side_keeper, web_keeper
from withoutloops.words import word_keeper

EVEN = (2, 0, (0,), ('a', 'b'), ((1, 0), (0, 1)))
TWO_WAYS = ((('row', 2),), (('tie', ('x', 'y'), 'and less x y or row x y row y x'),))
TURNED = ((('row', 2),), (('row', ('x', 'y'), 'and row y x not same x y'),))


def keepers():
    """All told keepers, and some that are made of them."""
    told = [going_keeper(), web_keeper(), side_keeper(), least_keeper(), number_keeper(), word_keeper(EVEN)]
    made = [carried(web_keeper(), TWO_WAYS), carried(going_keeper(), TURNED), beside(going_keeper(), web_keeper()),
            differs(with_answer(web_keeper(), ('x',), 'some y tree x y'), with_answer(side_keeper(), ('x',), 'some y tie y x'))]
    return told + made


class Whole(unittest.TestCase):
    def history(self, rng, keeper, n, most):
        """Drawn CHANGES, none of them barred, some of them idle."""
        book = Book(keeper, n)
        for _ in range(most):
            try:
                book.do(random_change(rng, keeper.told, n))
            except Barred:
                pass
        return book

    def check_questions(self, book):
        """The answer, by going through all places, by tables joined, and written otherwise."""
        keeper, store = book.keeper, book.store + book.kept
        question = keeper.plan.answer
        self.assertEqual(answered(question, book.n, store, ()), book.answer)
        self.assertEqual(joined(question, book.n, store, ())[0], book.answer)
        for other in (pushed, few_names):
            self.assertEqual(answered(other(question), book.n, store, ()), book.answer)
        if keeper.has_wish:
            self.assertEqual(answered(keeper.plan.wish, book.n, store, ()), book.wished())

    def check_bench(self, book):
        bench = Bench(book.keeper.text, book.n)
        for word, name, row in book.changes:
            (bench.put if word == 'put' else bench.strike)(name, row)
        now = bench.book_now()
        self.assertEqual(now, book)
        self.assertEqual((now.store, now.kept, now.answer), (book.store, book.kept, book.answer))
        self.assertEqual(read_journal(journal(bench)), bench)
        for _ in book.changes:
            bench.undo()
        self.assertEqual(bench, Bench(book.keeper.text, book.n))
        for _ in book.changes:
            bench.redo()
        self.assertEqual(bench.book_now().kept, book.kept)
        desk = Desk(journal(bench))
        self.assertEqual(desk.say('answer'), ' ; '.join(' '.join(map(str, row)) or 'yes' for row in book.answer) or 'none')
        if book.keeper.has_wish:
            self.assertEqual(desk.say('right'), 'yes' if is_right(book) else 'no')

    def check_far(self, book):
        keeper, n, changes = book.keeper, book.n, book.changes
        half = len(changes) // 2
        for history in (changes, changes[:half] + (('again', 1, changes[half:]),), (('again', 0, changes), ('again', 1, (('again', 1, changes),)))):
            self.assertEqual(behind(keeper, n, history, 1), (book.store, book.kept))
            self.assertEqual(answer_behind(keeper, n, history, 1), book.answer)
            self.assertEqual(many(keeper, n, history), len(book))

    def test_one_history(self):
        rng = random.Random(91)
        for keeper in keepers():
            self.assertEqual(Keeper(keeper.text), keeper)
            for n in (1, 2, 3, 4):
                book = self.history(rng, keeper, n, 10)
                again = booked(keeper, n, book.changes)
                self.assertEqual((again.store, again.kept, again.answer), (book.store, book.kept, book.answer))
                if keeper.has_wish:
                    self.assertTrue(is_right(book))
                    self.assertIsNone(first_wrong(keeper, n, book.changes))
                self.check_questions(book)
                self.check_bench(book)
                self.check_far(book)

    def test_histories_again_and_again(self):
        rng = random.Random(92)
        for keeper in keepers():
            book = self.history(rng, keeper, 3, 6)
            try:
                ahead, around = again_after(keeper, 3, book.changes, 400)
            except Barred as error:
                self.check_barred(keeper, book.changes, error.value)
                continue
            for times in (ahead, ahead + around, ahead + 3 * around):
                one = booked(keeper, 3, book.changes * times)
                self.assertEqual((one.store, one.kept), behind(keeper, 3, (('again', ahead + around * 10 ** 9, book.changes),), 400))

    def check_barred(self, keeper, changes, number):
        times, more = divmod(number, len(changes))
        one = booked(keeper, 3, changes * times + changes[:more])
        with self.assertRaises(Barred):
            one.do(changes[more])

    def test_carried_keepers_are_right(self):
        for keeper, n in ((carried(web_keeper(), TWO_WAYS), 2), (carried(going_keeper(), TURNED), 2), (carried(web_keeper(), TWO_WAYS), 3)):
            self.assertEqual(judged(keeper, n, 20000)[0], 'right')

    def test_places_called_otherwise(self):
        """In a keeper without less all is told with the places called otherwise."""
        rng = random.Random(93)
        texts = [going_keeper().text, carried(going_keeper(), TURNED).text, beside(going_keeper(), number_keeper()).text]
        while len(texts) < 40:
            text = random_keeper_text(rng)
            if 'less' not in text.split():
                texts.append(text)
        for text in texts:
            keeper, n = Keeper(text), rng.randint(2, 4)
            way = rng.sample(range(n), n)
            one = self.history(rng, keeper, n, 8)
            other = booked(keeper, n, tuple((word, name, self.row(row, way)) for word, name, row in one.changes))
            self.assertEqual(other.answer, self.rows(one.answer, way))
            for name, rows in one.store + one.kept:
                self.assertEqual(other.table(name), self.rows(rows, way))
            if keeper.has_wish:
                self.assertEqual(other.wished(), self.rows(one.wished(), way))
            turned = (('again', 10 ** 6, one.changes), ('again', 10 ** 6, other.changes))
            self.check_turned(keeper, n, [turned[:1], turned[1:]], way)

    def row(self, row, way):
        return tuple(way[place] for place in row)

    def rows(self, rows, way):
        return tuple(sorted(self.row(row, way) for row in rows))

    def check_turned(self, keeper, n, histories, way):
        told = []
        for history in histories:
            try:
                told.append(answer_behind(keeper, n, history, 20000))
            except Barred as error:
                told.append(error.value)
        self.assertEqual(told[1], self.rows(told[0], way) if isinstance(told[0], tuple) else told[0])

    def test_what_was_told_is_handed_in_again(self):
        """Standings, changes and histories that were told, put together."""
        keeper = Keeper('told in 1\nkept last 1\nput in\nset last x is same x p\nanswer x is last x\nwish x is in x')
        kind, wrong = judged(keeper, 3, 99)
        self.assertEqual(kind, 'wrong')
        first, second = on_road(keeper, 3, 'last', 99)
        self.assertTrue(shows_on_road(keeper, 3, 'last', 99, (first, second)))
        apart = parted(keeper, 3, first, second, 99)
        self.assertTrue(shows_parted(keeper, 3, first, second, 99, apart))
        self.assertEqual(booked(keeper, 3, first + apart).changes, first + apart)
        self.assertEqual(many(keeper, 3, (('again', 2, wrong),) + first), 2 * len(wrong) + len(first))
        store, kept = behind(keeper, 3, second, 9)
        self.assertEqual(answered(keeper.plan.answer, 3, store + kept, ()), booked(keeper, 3, second).answer)
