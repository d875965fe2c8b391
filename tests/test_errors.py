"""Sections 2 and 16: the errors."""

import inspect
import unittest

from tests.plain import odd_values
from withoutloops import errors
from withoutloops.asks import Question

NAMES = (
    'BadSize BadHead BadTables BadChanged BadQuestion NoQuestion BadStore BadRow HasLoop BadPair BadMost Wide '
    'NoKeeper BadKeeper NoBook BadTable BadChange BadChanges Barred NoWish BadPlace NotGoing NoWay IsWay NotBarred '
    'NotWeb BadRows NoRing OddRing NotTree NotNumbers NotUsed BadNumber BadMachine BadState BadWord NotWords '
    'BadCarrying Bounded Unbounded BadHistory NothingToUndo NothingToRedo NoBlock BadJournal BadTask'
).split()


class Errors(unittest.TestCase):
    def test_loop_error_is_a_value_error(self):
        self.assertEqual(errors.LoopError.__bases__, (ValueError,))

    def test_all_others_are_directly_below_it(self):
        for name in NAMES:
            with self.subTest(name):
                self.assertEqual(getattr(errors, name).__bases__, (errors.LoopError,))
                self.assertEqual(getattr(errors, name).__module__, 'withoutloops.errors')

    def test_there_are_no_others(self):
        classes = [name for name, value in vars(errors).items() if inspect.isclass(value)]
        self.assertEqual(sorted(classes), sorted(NAMES + ['LoopError']))

    def test_each_keeps_its_only_argument(self):
        values = odd_values() + [Question((), 'yes', (), 0), ('x', 'y'), errors.BadSize(1)]
        for name in NAMES + ['LoopError']:
            for value in values:
                self.assertIs(getattr(errors, name)(value).value, value)

    def test_each_has_just_one_argument(self):
        for name in NAMES + ['LoopError']:
            with self.assertRaises(TypeError):
                getattr(errors, name)()
            with self.assertRaises(TypeError):
                getattr(errors, name)(1, 2)

    def test_each_can_be_raised(self):
        for name in NAMES + ['LoopError']:
            with self.assertRaises(errors.LoopError) as caught:
                raise getattr(errors, name)(name)
            self.assertEqual(caught.exception.value, name)
