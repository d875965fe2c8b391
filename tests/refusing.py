"""What the tests of refusals share: what a call is refused with, and values of all kinds, objects too."""

import unittest

from tests.plain import nested, odd_values
from withoutloops.asks import Question
from withoutloops.books import Book
from withoutloops.errors import LoopError
from withoutloops.keepers import Keeper

KEEPER = Keeper('told row 2\nanswer x y is row x y')


def odd_objects():
    """Values of all kinds, none of them a number, a name, a row, a change, a Keeper or a Book that is asked for."""
    return odd_values() + [
        Question((), 'yes', (), 0), [KEEPER], (KEEPER,), {'x': KEEPER}, Keeper, Book, [Book(KEEPER, 2)], (Book(KEEPER, 2),),
        nested(lambda value: (value, KEEPER), 10), 'put', ('put',), b'row', 1.5,
    ]


def refused(call, *given):
    """The class of the error and its value, None if there is none."""
    try:
        call(*given)
    except LoopError as error:
        return type(error), error.value
    return None


class Refusals(unittest.TestCase):
    def check(self, kind, value, call, *given):
        """The error, and its value: this very one, or an equal one of its kind where the program makes it."""
        told = refused(call, *given)
        self.assertIsNotNone(told, given)
        self.assertIs(told[0], kind, given)
        if isinstance(value, (tuple, str, int)):
            self.assertEqual((type(told[1]), told[1]), (type(value), value))
        else:
            self.assertIs(told[1], value)
