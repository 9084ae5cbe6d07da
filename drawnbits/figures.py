"""Fractions in base two: their figures, digits, rests and weights; entropies."""

from math import lcm

from drawnbits.common import added, are_integers, check_number, is_number, lowest, power, power_modulo
from drawnbits.errors import BadFigures, BadFraction, BadNumber
from drawnbits.tables import check_amount, check_table, is_fraction

MOST_ENTROPY = 3


def figures(fraction):
    """The figures of a fraction: its whole, and its digits ahead of and in the round."""
    check_amount(fraction)
    top, bottom = fraction
    lefts, start = lefts_of(top, bottom)
    digits = [2 * left // bottom for left in lefts]
    # A round of the left 0 alone means that there is none.
    cycle = digits[start:] if lefts[start] > 0 else []
    return (top // bottom, tuple(digits[:start]), tuple(cycle))


def lefts_of(top, bottom):
    """What is left of top / bottom behind 0, 1, 2 .. digits, in bottoms, each once; and where the round begins."""
    seen = {}
    left = top % bottom
    while left not in seen:
        seen[left] = len(seen)
        left = 2 * left % bottom
    return (list(seen), seen[left])


def are_figures(thing):
    """Whether any value is the figures of a fraction."""
    if not isinstance(thing, tuple) or len(thing) != 3:
        return False
    whole, ahead, cycle = thing
    if not is_number(whole) or not are_integers(ahead, 0, 1) or not are_integers(cycle, 0, 1):
        return False
    if cycle == ():
        return ahead == () or ahead[-1] == 1
    # If both ended alike, the round could begin one digit earlier.
    return is_shortest(cycle) and cycle != (0,) and cycle != (1,) and (ahead == () or ahead[-1] != cycle[-1])


def is_shortest(cycle):
    """Whether a row of digits is not a shorter one again and again."""
    many = len(cycle)
    return not any([many % k == 0 and cycle[k:] == cycle[:-k] for k in range(1, many)])


def fraction_of(told):
    """The fraction that has these figures."""
    if not are_figures(told):
        raise BadFigures(told)
    whole, ahead, cycle = told
    scale = 1 << len(ahead)
    found = lowest(whole * scale + in_base_two(ahead), scale)
    if cycle == ():
        return found
    return added(found, lowest(in_base_two(cycle), scale * ((1 << len(cycle)) - 1)))


def in_base_two(numbers):
    """The sum of all numbers, each counted twice as much as the one behind it, the last one once."""
    found = 0
    for number in numbers:
        found = 2 * found + number
    return found


def digits_of(number, many):
    """The last so many digits of a number from 0 on in base two."""
    return tuple([number >> (many - 1 - k) & 1 for k in range(many)])


def left_behind(fraction, k):
    """What is left of a fraction behind k digits, in its bottoms."""
    top, bottom = fraction
    return top * power_modulo(2, k, bottom) % bottom


def digit(fraction, k):
    """The digit of a fraction at the place k behind the point, k from 1 on."""
    check_amount(fraction)
    if not is_number(k) or k == 0:
        raise BadNumber(k)
    return 2 * left_behind(fraction, k - 1) // fraction[1]


def rest_at(fraction, k):
    """The rest of a fraction behind k digits."""
    check_amount(fraction)
    check_number(k)
    return lowest(left_behind(fraction, k), fraction[1])


def weight(fraction):
    """The sum of the places k, each times its digit, divided by the k-th power of 2."""
    check_amount(fraction)
    top, bottom = fraction
    # The weight of x is its rest and half the weight of the rest behind one digit:
    # so it is the sum of the rests behind k digits, each divided by the k-th power of 2.
    lefts, start = lefts_of(top, bottom)
    many = len(lefts) - start
    ahead = in_base_two(lefts[:start])
    cycle = in_base_two(lefts[start:])
    endless = (1 << many) - 1
    scale = bottom << start
    return added(lowest(2 * ahead, scale), lowest(2 * cycle, scale * endless))


def is_entropy_at_least(table, fraction):
    """Whether the entropy of a table is at least any fraction."""
    check_table(table)
    if not is_fraction(fraction):
        raise BadFraction(fraction)
    top, bottom = fraction
    # An entropy is from 0 to 3 with up to 8 outcomes; else the power of two could be far too great.
    if top <= 0:
        return True
    if top > MOST_ENTROPY * bottom:
        return False
    shared = common_bottom(table)
    parts = [chance[0] * (shared // chance[1]) for chance in table]
    powers = 1
    for part in parts:
        powers = powers * power(part, part * bottom)
    return power(shared, shared * bottom) >= powers << (shared * top)


def common_bottom(table):
    """The least common bottom of all chances of a table."""
    found = 1
    for chance in table:
        found = lcm(found, chance[1])
    return found
