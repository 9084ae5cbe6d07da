"""Tables that can be drawn with at most so many bits, and those of them that are nearest to a table."""

from drawnbits.common import check_number, is_above, is_power_of_two, lowest
from drawnbits.errors import BadTable, OtherSize
from drawnbits.tables import amount_apart, check_amount, check_table, is_table


def is_within_bits(table, t):
    """Whether all chances of a table are whole numbers of 2 ** t-th parts."""
    return all([is_power_of_two(bottom) and bottom.bit_length() <= t + 1 for _, bottom in table])


def can_be_drawn(table, t):
    """Whether a table can be drawn with t bits, whatever they are."""
    check_table(table)
    check_number(t)
    return is_within_bits(table, t)


def nearest(table, t):
    """A table with the least distance of those that can be drawn with t bits."""
    check_table(table)
    check_number(t)
    return nearest_to(table, t)


def nearest_to(table, t):
    """A nearest table: the parts that lack to 1 are given to outcomes with the greatest rests."""
    if is_within_bits(table, t):
        return table
    parts = [(top << t) // bottom for top, bottom in table]
    rests = [lowest((top << t) % bottom, bottom) for top, bottom in table]
    for _ in range((1 << t) - sum(parts)):
        greatest = 0
        for i, rest in enumerate(rests):
            if is_above(rest, rests[greatest]):
                greatest = i
        parts[greatest] = parts[greatest] + 1
        rests[greatest] = (0, 1)
    return tuple([lowest(part, 1 << t) for part in parts])


def check_drawable(table, t, other):
    """Raises the errors of values that are no table, number and table within so many bits with as many outcomes."""
    check_table(table)
    check_number(t)
    if not is_table(other) or not is_within_bits(other, t):
        raise BadTable(other)
    if len(other) != len(table):
        raise OtherSize(other)


def judge_nearest(table, t, other):
    """A certificate that a table is a nearest one, or is not."""
    check_drawable(table, t, other)
    found = nearest_to(table, t)
    return ("nearer", found) if is_nearer(table, found, other) else ("nearest",)


def is_nearer(table, one, other):
    """Whether one table is nearer to a table than another one is."""
    return is_above(amount_apart(table, other), amount_apart(table, one))


def nearest_holds(table, t, other, thing):
    """Whether any value is a right certificate of judge_nearest."""
    check_drawable(table, t, other)
    if thing == ("nearest",):
        return not is_nearer(table, nearest_to(table, t), other)
    if not isinstance(thing, tuple) or len(thing) != 2 or thing[0] != "nearer" or not is_table(thing[1]):
        return False
    nearer = thing[1]
    return len(nearer) == len(table) and is_within_bits(nearer, t) and is_nearer(table, nearer, other)


def least_bits(table, fraction):
    """The least t such that a table within t bits is at most this far from a table, None if there is none."""
    check_table(table)
    check_amount(fraction)
    if fraction == (0, 1) and not all([is_power_of_two(bottom) for _, bottom in table]):
        return None
    t = 0
    while is_above(amount_apart(table, nearest_to(table, t)), fraction):
        t = t + 1
    return t
