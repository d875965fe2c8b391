"""Numbers: places numbered as they were first used, sums, products and how many rows stand."""

from withoutloops.books import check_book
from withoutloops.errors import BadNumber, NotNumbers, NotUsed
from withoutloops.keepers import Keeper
from withoutloops.values import check_place, is_integer

NUMBERS = (
    "told in 1",
    "kept used 1",
    "kept ord 2",
    "kept plus 3",
    "kept times 3",
    "kept cnt 1",
    "put in",
    "let new is not used p",
    "let all x is or used x same x p",
    "let seq x y is or ord x y and and new used x same y p",
    "let zero x is and all x not some y seq y x",
    "let next x y is and seq x y not some z and seq x z seq z y",
    "let top x is and used x not some y ord x y",
    "let one x is some z and zero z next z x",
    "let sum x y z is or plus x y z and and new same z p or and same x p zero y or and same y p zero x "
    "some a some b and and next a y top b plus x a b",
    "let part x y z is and and all x all y or and and or same x p same y p or zero x zero y zero z "
    "and same z p or and same x p one y or and same y p one x some a some c and and next a y sum c x p times x a c",
    "set used x is all x",
    "set ord x y is seq x y",
    "set plus x y z is sum x y z",
    "set times x y z is or times x y z and new part x y z",
    "set cnt x is some c and cnt c next c x",
    "strike in",
    "let next x y is and ord x y not some z and ord x z ord z y",
    "let top x is and used x not some y ord x y",
    "set cnt x is or and not some c cnt c top x some c and cnt c next x c",
    "answer x is cnt x",
)


def number_keeper():
    """The Keeper of numbers."""
    return Keeper("\n".join(NUMBERS))


def check_numbers(book, places):
    """Refuses what is no Book of the Keeper of numbers, and what is none of its places."""
    check_book(book)
    if book.keeper.text != "\n".join(NUMBERS):
        raise NotNumbers(book.keeper.text)
    for place in places:
        check_place(place, book.n)


def places_used(book):
    """The used places of a Book of numbers, in the sequence of their numbers."""
    later = [place for _, place in book.table("ord")]
    numbered = sorted([(later.count(row[0]), row[0]) for row in book.table("used")])
    return tuple([place for _, place in numbered])


def check_used(book, places):
    """Refuses a place that is not used."""
    for place in places:
        if place not in places_used(book):
            raise NotUsed(place)


def used(book):
    """The used places, in the sequence of their numbers."""
    check_numbers(book, ())
    return places_used(book)


def number_of(book, place):
    """The number of a used place."""
    check_numbers(book, (place,))
    check_used(book, (place,))
    return places_used(book).index(place)


def place_of(book, number):
    """The used place with this number."""
    check_numbers(book, ())
    places = places_used(book)
    if not is_integer(number, 0, len(places) - 1):
        raise BadNumber(number)
    return places[number]


def how_many(book):
    """How many rows stand."""
    check_numbers(book, ())
    return len(book.table("in"))


def numbers_of(book, places):
    """The numbers of used places."""
    check_numbers(book, places)
    check_used(book, places)
    return [places_used(book).index(place) for place in places]


def place_if_used(book, number):
    """The used place with this number, None if there is none."""
    places = places_used(book)
    return places[number] if number < len(places) else None


def summed(book, x, y):
    """The place whose number is the sum of those of x and y, None if there is none."""
    one, other = numbers_of(book, (x, y))
    return place_if_used(book, one + other)


def product(book, x, y):
    """The place whose number is the product of those of x and y, None if there is none."""
    one, other = numbers_of(book, (x, y))
    return place_if_used(book, one * other)


def over_half(book):
    """Whether more than half of all used places stand."""
    return how_many(book) * 2 > len(places_used(book))


def evenly(book, k):
    """Whether how_many can be parted by k without a rest."""
    many = how_many(book)
    if not is_integer(k, 1, 3):
        raise BadNumber(k)
    return many - many // k * k == 0
