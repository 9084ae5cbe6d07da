"""What several files need: checks of integers, and fractions in lowest terms."""

from math import gcd

from drawnbits.errors import BadNumber


def is_integer(thing):
    """Whether any value is an integer; a bool is none."""
    return isinstance(thing, int) and not isinstance(thing, bool)


def is_within(thing, low, high):
    """Whether any value is an integer from low to high."""
    return is_integer(thing) and low <= thing <= high


def are_integers(thing, low, high):
    """Whether any value is a tuple, perhaps (), of integers from low to high."""
    return isinstance(thing, tuple) and all([is_within(item, low, high) for item in thing])


def are_pairs(thing, firsts):
    """Whether any value is a tuple of pairs whose first items are just these integers, in their order."""
    if not isinstance(thing, tuple) or len(thing) != len(firsts):
        return False
    if not all([isinstance(item, tuple) and len(item) == 2 and is_integer(item[0]) for item in thing]):
        return False
    return all([item[0] == first for item, first in zip(thing, firsts)])


def is_lot(thing, many):
    """Whether any value is an ascending tuple of positions below many."""
    return are_integers(thing, 0, many - 1) and all([one < other for one, other in zip(thing, thing[1:])])


def is_number(thing):
    """Whether any value is an integer from 0 on."""
    return is_integer(thing) and thing >= 0


def check_number(k):
    """Raises the error of a value that is no integer from 0 on."""
    if not is_number(k):
        raise BadNumber(k)


def is_like(thing, told):
    """Whether any value equals a told one of integers, strings and tuples, on each level; True is no 1."""
    if isinstance(told, tuple):
        is_as_long = isinstance(thing, tuple) and len(thing) == len(told)
        return is_as_long and all([is_like(one, other) for one, other in zip(thing, told)])
    return (isinstance(thing, str) or is_integer(thing)) and thing == told


def is_power_of_two(number):
    """Whether a number above 0 is a power of 2."""
    return number & (number - 1) == 0


def lowest(top, bottom):
    """The fraction top / bottom in lowest terms, bottom being above 0."""
    shared = gcd(top, bottom)
    return (top // shared, bottom // shared)


def added(one, other):
    """The sum of two fractions."""
    return lowest(one[0] * other[1] + other[0] * one[1], one[1] * other[1])


def total(fractions):
    """The sum of all fractions, 0 for none."""
    found = (0, 1)
    for fraction in fractions:
        found = added(found, fraction)
    return found


def times(one, other):
    """The product of two fractions."""
    return lowest(one[0] * other[0], one[1] * other[1])


def divided(one, other):
    """The first fraction divided by the second one, which is above 0."""
    return lowest(one[0] * other[1], one[1] * other[0])


def apart(one, other):
    """The amount by which two fractions differ."""
    return lowest(abs(one[0] * other[1] - other[0] * one[1]), one[1] * other[1])


def is_above(one, other):
    """Whether the first fraction is greater than the second one."""
    return one[0] * other[1] > other[0] * one[1]


def power(base, many):
    """The power of base with the exponent many, from 0 on; 1 for the exponent 0."""
    found = 1
    square = base
    left = many
    while left > 0:
        if left & 1:
            found = found * square
        left = left // 2
        # The last square would be the greatest one, and for nothing.
        if left > 0:
            square = square * square
    return found


def power_modulo(base, many, modulus):
    """What is left of the power of base with the exponent many, divided by modulus."""
    found = 1 % modulus
    square = base % modulus
    left = many
    while left > 0:
        if left & 1:
            found = found * square % modulus
        left = left // 2
        square = square * square % modulus
    return found
