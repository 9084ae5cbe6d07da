"""What the tests share: wrong values, exact comparison, checks of errors, fractions of Python's own."""

import unittest
from fractions import Fraction

from drawnbits.errors import DrawError
from drawnbits.services import Service

THIRDS = ((1, 3), (1, 3), (1, 3))
HALVES = ((1, 2), (1, 2))
SURE = ((1, 1),)
EDGE = ((0, 1), (1, 1))
SKEW = ((1, 6), (0, 1), (1, 2), (1, 3))
EIGHT = tuple([(1, 8)] * 8)
UNEVEN = ((1, 36), (1, 18), (1, 12), (1, 9), (5, 36), (1, 6), (7, 36), (2, 9))
LONG_BOTTOM = 10 ** 29 + 7
LONG = ((1, LONG_BOTTOM), (LONG_BOTTOM - 1, LONG_BOTTOM))
TABLES = (SURE, HALVES, EDGE, ((1, 3), (2, 3)), THIRDS, ((1, 2), (1, 4), (1, 4)), SKEW, EIGHT, UNEVEN, LONG)

DEEP = ((((((((((1,),),),),),),),),),)

# A service, which is a value of no other kind.
SHOP = Service()
SHOP.put("coin", ("draw", HALVES))
SHOP.feed((1, 0))

# Values that are none of the kinds fraction, table, lot, names, tables, row, counts, figures, number.
JUNK = (None, True, False, "", "within", "1/2", "lot", [], [1, 2], [[1, 2], [1, 2]], {}, {0: 1}, {(1, 2): (1, 2)},
        (None,), ("a", "b"), (True,), (False, True), ([],), ({},), ((),), DEEP, (1.0, 2), 0.5, SHOP,
        (SHOP,), (1, SHOP), [SHOP], ("within",), ("lot", (0,)), tuple([0] * 1999) + (True,), "x" * 2000, (-10 ** 99,),
        -1, -10 ** 99)

WRONG_FRACTIONS = JUNK + (
    (), (1,), (1, 2, 3), (2, 4), (0, 2), (-2, 4), (1, 0), (0, 0), (1, -2), (-1, -2), (True, 2), (1, True), (False, 1),
    (0, True), (False, True), [1, 2], ((1, 2),), ((1, 2), (1, 2)), ((1,), 2), (1, (2,)), ("1", "2"), ("1", 2),
    (1, None), 1, 2, (10 ** 99, 10 ** 98), (10 ** 99 * 3, 3))
BELOW_ZERO = ((-1, 1), (-1, 2), (-10 ** 30, 7))

WRONG_TABLES = JUNK + (
    (), 1, 2, (1,), (1, 1), (1, 2), ((1, 2),), ((0, 1),), ((2, 1),), ((1, 2), (1, 3)), ((1, 2), (2, 4)), ((2, 2),),
    ((1, 1), (0, 2)), ((3, 2), (-1, 2)), ((2, 1), (-1, 1)), [(1, 2), (1, 2)], ((1, 2), [1, 2]), ([1, 1],), ((True, 1),),
    ((1, True),), ((1, 1), (False, 1)), ((1, 1), (0, True)), ((1, 1), 0), ((1, 1), ()), ((1, 1), None), (((1, 1),),),
    (((1, 2), (1, 2)),), ((1, 2), (1, 2), (1, 2)), ((1, 1), (1, 1)), tuple([(1, 9)] * 9), ((1, 1),) + ((0, 1),) * 8,
    ((1, 2, 3),), ((1, 1, 1),), ((-1, -1),), ((1, 10 ** 30), (10 ** 30 - 1, 10 ** 30 + 1)), "((1, 1),)",
    (HALVES, HALVES))

# Values that are no ascending tuple of integers from 0 to 2, and no row of them either.
WRONG_ITEMS_OF_THREE = JUNK + (
    0, 1, 2, (3,), (-1,), (0, 3), (0, 1, 2, 3), [0], [0, 1], [0, 1, 2], (0, True), (False,), (False, 1), (True, 2),
    ((0,),), (0, (1,)), (0, None), ("0",), (0, "1"), (10 ** 99,), (0.0,), "012", {0: 0}, {0: 0, 1: 1})
WRONG_LOTS_OF_THREE = WRONG_ITEMS_OF_THREE + (
    (1, 0), (0, 0), (1, 1), (2, 0), (0, 2, 1), (0, 1, 2, 2), (0, 0, 1), (2, 1, 0))
# Values that are no tuple of three integers of the range that is asked for: from 0 to 7, or to 40.
WRONG_THREES = JUNK + (
    (), 0, (0,), (0, 1), (0, 1, 2, 3), [0, 1, 2], (0, 1, -1), (0, 1, True), (False, 1, 2), (0, 1, None), (0, 1, "2"),
    (0, 1, (2,)), ((0, 1, 2),), (0, 1, 10 ** 99), (-1, 0, 1), "012", (0, 1, 2.0), (0, 1, 41))
WRONG_NUMBERS = JUNK + ((), (1,), (0, 1), "1", 1.0)


def fraction(pair):
    """A fraction of Python's own."""
    return Fraction(pair[0], pair[1])


def pair(number):
    """The fraction of the package that is a fraction of Python's own."""
    number = Fraction(number)
    return (number.numerator, number.denominator)


def told(table):
    """The chances of a table, as fractions of Python's own."""
    return [fraction(chance) for chance in table]


def table_of(numbers):
    """The table with these chances."""
    return tuple([pair(number) for number in numbers])


def ways(low, high):
    """All integers from low to high."""
    return range(low, high + 1)


class Case(unittest.TestCase):
    """A test case that compares exactly, so that True is not 1 and a list is not a tuple."""

    def assert_same(self, one, other):
        self.assertEqual(repr(one), repr(other))

    def assert_fraction(self, found, number):
        self.assert_same(found, pair(number))

    def assert_raised(self, error, parameters, call, /, *args, **named):
        """The call raises just this error with just these attributes, and leaves its arguments as they were."""
        before = repr((args, named))
        with self.assertRaises(DrawError) as caught:
            call(*args, **named)
        self.assertIs(error, caught.exception.__class__)
        self.assert_same(vars(caught.exception), parameters)
        self.assertEqual(before, repr((args, named)))

    def assert_bad(self, error, thing, call, /, *args, **named):
        self.assert_raised(error, {"thing": thing}, call, *args, **named)

    def assert_calls(self, wanted, call, /, **named):
        """The call gives the same by position, by name and once more, and leaves its arguments as they were."""
        before = repr(named)
        for _ in range(2):
            self.assert_same(call(*named.values()), wanted)
            self.assert_same(call(**named), wanted)
            self.assert_same(call(**dict(reversed(list(named.items())))), wanted)
        self.assertEqual(before, repr(named))
