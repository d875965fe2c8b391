"""Section 14: what stands behind far histories, beside a plain doing of all their CHANGES."""

import random
import unittest

from tests.drawn_keepers import random_keeper_text
from tests.plain import balanced
from tests.plain_far import PlainBarred, PlainTraveller, PlainWide, plain_many, random_history
from withoutloops.books import booked
from withoutloops.errors import Barred, LoopError, Wide
from withoutloops.far import again_after, answer_behind, behind, many
from withoutloops.keepers import Keeper

FAR = 10 ** 12
PUT, STRIKE = ('put', 'in', ()), ('strike', 'in', ())
DAY = (PUT, STRIKE)


def counter(bits, bar=None):
    """A keeper of one yes or no, that counts all changes that are not idle; the text of a question may bar them."""
    lines = ['told in 0'] + [f'kept k{at} 0' for at in range(bits)]
    for word in ('put', 'strike'):
        lines += [f'{word} in'] + ([f'bar {bar}'] if bar and word == 'put' else [])
        for at in range(bits):
            lower = balanced('and', [f'k{one}' for one in range(at)]) if at else 'yes'
            lines.append(f'set k{at} is or and k{at} not {lower} and not k{at} {lower}')
    return Keeper('\n'.join(lines + ['answer is k0']))


def counted(standing):
    """The number that the kept tables of a counter tell."""
    return sum(2 ** at for at, (_, rows) in enumerate(standing[1]) if rows)


def told_by(call, *given):
    """What is told: the answer, or the class of the error and its value."""
    try:
        return call(*given)
    except LoopError as error:
        return type(error), error.value


class Beside(unittest.TestCase):
    def plain(self, text, n, most, do):
        """What a plain traveller tells, and itself."""
        traveller = PlainTraveller(text, n, most)
        try:
            return do(traveller), traveller
        except PlainBarred:
            return (Barred, traveller.done), traveller
        except PlainWide:
            return (Wide, most), traveller

    def check(self, text, n, history, most):
        """One history beside its plain doing: what came of it."""
        keeper = Keeper(text)
        self.assertEqual(many(keeper, n, history), plain_many(history))
        wanted, traveller = self.plain(text, n, most, lambda one: one.do(history) or one.standing())
        told = told_by(behind, keeper, n, history, most)
        self.assertEqual(told, wanted, history)
        if wanted[0] in (Barred, Wide):
            self.assertEqual(told_by(answer_behind, keeper, n, history, most), wanted)
        else:
            self.assertEqual(answer_behind(keeper, n, history, most), traveller.book.told_by('answer'))
            self.assertEqual(traveller.done, plain_many(history))
        rounds, _ = self.plain(text, n, most, lambda one: one.again_after(history))
        self.assertEqual(told_by(again_after, keeper, n, history, most), rounds, history)
        self.met += [wanted[0], rounds[0]]

    def setUp(self):
        self.met = []

    def test_drawn_histories(self):
        rng = random.Random(51)
        for _ in range(120):
            text = random_keeper_text(rng)
            history = random_history(rng, Keeper(text).told, 2)
            while plain_many(history) > 60:
                history = random_history(rng, Keeper(text).told, 2)
            for most in (1, 2, 3, 20):
                self.check(text, 2, history, most)
        for kind in (Barred, Wide):
            self.assertGreater(self.met.count(kind), 20)

    def test_counters(self):
        rng = random.Random(52)
        for bar in (None, 'and k1 k2', 'and k2 and not k1 not k0'):
            text = counter(3, bar).text
            for _ in range(40):
                history = random_history(rng, (('in', 0),), 1, 0, 3)
                while plain_many(history) > 200:
                    history = random_history(rng, (('in', 0),), 1, 0, 3)
                for most in (1, 2, 3, 4, 5, 8, 9):
                    self.check(text, 1, history, most)
        for kind in (Barred, Wide):
            self.assertGreater(self.met.count(kind), 20)


class Far(unittest.TestCase):
    def test_histories_of_none(self):
        keeper = counter(3)
        first = behind(keeper, 1, (), 1)
        self.assertEqual(first, ((('in', ()),), tuple((f'k{at}', ()) for at in range(3))))
        nothing = [(), (('again', 0, DAY),), (('again', FAR, ()),), (('again', FAR, (('again', FAR, (('again', FAR, ()),)),)),),
                   (('again', FAR, (('again', 0, DAY),)),), (('again', 0, (('again', FAR, DAY),)),)]
        for history in nothing:
            self.assertEqual([many(keeper, 1, history), behind(keeper, 1, history, 1)], [0, first])
            self.assertEqual(answer_behind(keeper, 1, history, 1), ())
            self.assertEqual(again_after(keeper, 1, history, 1), (0, 1))

    def test_far_times(self):
        keeper = counter(4)
        for times in (FAR, FAR - 1, FAR - 7, 10 ** 9 + 7, 17, 16, 1, 0):
            history = (('again', times, DAY),)
            self.assertEqual(many(keeper, 1, history), 2 * times)
            self.assertEqual(counted(behind(keeper, 1, history, 16)), 2 * times % 16)
            odd = (PUT, ('again', times, (STRIKE, PUT)), ('again', times, (PUT,)))
            self.assertEqual(counted(behind(keeper, 1, odd, 16)), (2 * times + 1) % 16)
            self.assertEqual(answer_behind(keeper, 1, odd, 16), ((),))
            self.assertEqual(many(keeper, 1, odd), 3 * times + 1)

    def test_repeats_within_repeats(self):
        keeper = counter(5)
        for one, other, third in ((FAR, FAR, FAR), (FAR - 1, 3, FAR), (7, FAR - 3, 11), (5, 1, 1), (3, 0, FAR)):
            history = (('again', one, (PUT, ('again', other, (STRIKE, PUT, ('again', third, (STRIKE, PUT)))), STRIKE)),)
            changes = one * (2 + other * (2 + 2 * third))
            self.assertEqual(many(keeper, 1, history), changes)
            self.assertEqual(counted(behind(keeper, 1, history, 40)), changes % 32)

    def test_ahead_of_the_round(self):
        """What stands ahead of the round is not come back to."""
        lines = ['told in 0', 'kept a 0', 'kept b 0', 'kept odd 0', 'put in', 'set a is yes', 'set b is a', 'set odd is and b not odd']
        keeper = Keeper('\n'.join(lines + ['answer is odd']))
        rounds = again_after(keeper, 1, DAY, 20)
        self.assertEqual(rounds, (2, 2))
        for times in range(12):
            by_one = booked(keeper, 1, DAY * times)
            self.assertEqual(behind(keeper, 1, (('again', times, DAY),), 20), (by_one.store, by_one.kept))
            self.assertEqual(behind(keeper, 1, (('again', times + 2 * 10 ** 11, DAY),), 20) == (by_one.store, by_one.kept), times > 1)
        self.assertEqual(again_after(keeper, 1, (PUT,), 9), (1, 1))

    def test_a_round_of_three_behind_one(self):
        """What is kept goes from 0 to 1, and round from 1 to 3."""
        lines = ['told in 0', 'kept k0 0', 'kept k1 0', 'strike in', 'set k0 is or not k0 k1', 'set k1 is or and k0 not k1 and k1 not k0']
        keeper = Keeper('\n'.join(lines + ['answer is k0']))
        self.assertEqual(again_after(keeper, 1, DAY, 4), (1, 3))
        self.assertEqual(again_after(keeper, 1, DAY + DAY, 4), (1, 3))
        for times in (*range(12), FAR - 2, FAR - 1, FAR):
            number = 1 + (times - 1) % 3 if times else 0
            self.assertEqual(counted(behind(keeper, 1, (('again', times, DAY),), 4)), number)
            self.assertEqual(counted(behind(keeper, 1, (('again', times, DAY + DAY),), 4)), 1 + (2 * times - 1) % 3 if times else 0)
        self.assertEqual(told_by(behind, keeper, 1, (('again', FAR, DAY),), 3), (Wide, 3))
        self.assertEqual(told_by(again_after, keeper, 1, DAY, 3), (Wide, 3))

    def test_most_just_enough(self):
        keeper = counter(3)
        # Behind 0, 1, 2, 3 times of DAY stand four unlike STANDINGS, behind the fourth time the first one again.
        for times in (FAR, 5, 4):
            history = (('again', times, DAY),)
            self.assertEqual(counted(behind(keeper, 1, history, 4)), 2 * times % 8)
            self.assertEqual(told_by(behind, keeper, 1, history, 3), (Wide, 3))
            self.assertEqual(told_by(answer_behind, keeper, 1, history, 3), (Wide, 3))
        for times in range(4):
            # As many times as most need no STANDING more.
            self.assertEqual(counted(behind(keeper, 1, (('again', times, DAY),), max(times, 1))), 2 * times)
            if times > 1:
                self.assertEqual(told_by(behind, keeper, 1, (('again', times, DAY),), times - 1), (Wide, times - 1))
        self.assertEqual(again_after(keeper, 1, DAY, 4), (0, 4))
        self.assertEqual(told_by(again_after, keeper, 1, DAY, 3), (Wide, 3))

    def test_counted_anew_whenever_it_is_come_to(self):
        keeper = counter(3)
        three = ('again', 2, DAY)
        # Two times are no more than most, however often they are done.
        self.assertEqual(counted(behind(keeper, 1, (three, three, three), 2)), 12 % 8)
        self.assertEqual(told_by(behind, keeper, 1, (three, ('again', 3, DAY)), 2), (Wide, 2))
        self.assertEqual(counted(behind(keeper, 1, (('again', 2, (three,)),), 2)), 0)
        self.assertEqual(told_by(behind, keeper, 1, (('again', 3, (('again', 1, DAY),)),), 2), (Wide, 2))

    def test_bars_far_away(self):
        # A put is barred behind six changes that are not idle.
        keeper = counter(3, 'and k1 k2')
        self.assertEqual(told_by(behind, keeper, 1, (('again', FAR, DAY),), 20), (Barred, 6))
        self.assertEqual(told_by(behind, keeper, 1, (PUT, ('again', FAR, (PUT, STRIKE, PUT))), 20), (Barred, 9))
        round_about = ('again', FAR, (('again', FAR, (STRIKE,)), PUT, ('again', FAR, (PUT,)), STRIKE))
        history = (('again', FAR, (STRIKE,)), round_about)
        for call in (behind, answer_behind):
            self.assertEqual(told_by(call, keeper, 1, history, 20), (Barred, 8 * FAR + 6))
        self.assertEqual(told_by(again_after, keeper, 1, history, 20), (Barred, 8 * FAR + 6))
        # In the third time of the second time of a repeat within a repeat.
        inner = ('again', 2, (('again', FAR, (STRIKE,)), PUT, STRIKE))
        self.assertEqual(told_by(behind, keeper, 1, (('again', FAR, (inner,)),), 20), (Barred, 4 * FAR + 6))
        self.assertEqual(told_by(behind, keeper, 1, (('again', 1, (inner,)), ('again', 1, (inner,))), 20), (Barred, 4 * FAR + 6))

    def test_bars_that_come_only_at_a_later_time(self):
        keeper = counter(3, 'and k1 k2')
        self.assertEqual(told_by(again_after, keeper, 1, DAY, 20), (Barred, 6))
        self.assertEqual(told_by(again_after, keeper, 1, DAY + DAY, 20), (Barred, 6))
        self.assertEqual(told_by(again_after, keeper, 1, (('again', FAR, (STRIKE,)), PUT, STRIKE), 20), (Barred, 4 * FAR + 6))
        self.assertEqual(again_after(counter(3), 1, DAY + DAY, 20), (0, 2))

    def test_the_one_that_comes_first(self):
        # Three times of DAY are done, then the put is barred; the fourth STANDING is met behind the third time.
        keeper, history = counter(3, 'and k1 k2'), (('again', FAR, DAY),)
        for most, told in ((1, (Wide, 1)), (2, (Wide, 2)), (3, (Wide, 3)), (4, (Barred, 6)), (20, (Barred, 6))):
            self.assertEqual(told_by(behind, keeper, 1, history, most), told)
            self.assertEqual(told_by(again_after, keeper, 1, DAY, most), told)
        # Both in one history, in both sequences.
        many_days, barred = ('again', 3, DAY), (PUT,)
        self.assertEqual(told_by(behind, keeper, 1, (many_days,) + barred, 2), (Wide, 2))
        self.assertEqual(told_by(behind, keeper, 1, (many_days,) + barred, 3), (Barred, 6))
        self.assertEqual(told_by(behind, keeper, 1, DAY * 3 + barred + (many_days,), 2), (Barred, 6))
        self.assertEqual(told_by(behind, keeper, 1, DAY + (('again', 2, DAY), PUT), 1), (Wide, 1))
        self.assertEqual(told_by(behind, keeper, 1, DAY * 2 + (('again', 2, DAY),), 1), (Wide, 1))
        self.assertEqual(told_by(behind, keeper, 1, DAY * 3 + (('again', 2, DAY),), 1), (Barred, 6))

    def test_what_is_not_done_is_not_barred(self):
        keeper = counter(3, 'yes')
        self.assertEqual(counted(behind(keeper, 1, (('again', 0, DAY), ('again', FAR, (STRIKE,))), 1)), 0)
        self.assertEqual(told_by(behind, keeper, 1, (('again', FAR, (STRIKE,)), PUT), 1), (Barred, FAR))

    def test_very_far(self):
        keeper = counter(12)
        self.assertEqual(counted(behind(keeper, 1, (('again', 1500, DAY),), 1500)), 3000)
        self.assertEqual(told_by(behind, keeper, 1, (('again', 1501, DAY),), 1500), (Wide, 1500))
        self.assertEqual(counted(behind(keeper, 1, (('again', FAR, DAY),), 2048)), 2 * FAR % 2 ** 12)
        self.assertEqual(again_after(keeper, 1, DAY, 2048), (0, 2048))
        self.assertEqual(told_by(again_after, keeper, 1, DAY, 2047), (Wide, 2047))
