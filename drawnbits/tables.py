"""Tables of chances, tables made of tables, and how far apart they are."""

from math import comb, gcd

from drawnbits.common import apart, are_integers, divided, is_above, is_integer, is_lot
from drawnbits.common import lowest, power, times, total
from drawnbits.errors import BadFraction, BadLot, BadOutcome, BadRow, BadTable, OtherSize, TooMany

MOST_OUTCOMES = 8
MOST_COUNT = 40


def is_fraction(thing):
    """Whether any value is a fraction, perhaps below 0."""
    if not isinstance(thing, tuple) or len(thing) != 2:
        return False
    top, bottom = thing
    return is_integer(top) and is_integer(bottom) and bottom > 0 and gcd(top, bottom) == 1


def is_amount(thing):
    """Whether any value is a fraction from 0 on."""
    return is_fraction(thing) and thing[0] >= 0


def are_amounts(thing, many):
    """Whether any value is a tuple of so many fractions from 0 on."""
    return isinstance(thing, tuple) and len(thing) == many and all([is_amount(item) for item in thing])


def are_tables(thing):
    """Whether any value is a tuple, perhaps (), of tables."""
    return isinstance(thing, tuple) and all([is_table(item) for item in thing])


def is_table(thing):
    """Whether any value is a table."""
    if not isinstance(thing, tuple) or not 1 <= len(thing) <= MOST_OUTCOMES:
        return False
    return are_amounts(thing, len(thing)) and total(thing) == (1, 1)


def check_table(table):
    """Raises the error of a value that is no table."""
    if not is_table(table):
        raise BadTable(table)


def check_amount(fraction):
    """Raises the error of a value that is no fraction from 0 on."""
    if not is_amount(fraction):
        raise BadFraction(fraction)


def check_lot(table, lot):
    """Raises the error of a value that is no lot of the outcomes of a table."""
    if not is_lot(lot, len(table)):
        raise BadLot(lot)


def check_pair(table, other):
    """Raises the error of two values that are no tables with as many outcomes."""
    check_table(table)
    check_table(other)
    if len(table) != len(other):
        raise OtherSize(other)


def chance_of(table, lot):
    """The chance of a lot, both being right."""
    return total([table[i] for i in lot])


def lot_chance(table, lot):
    """The chance of a lot of outcomes."""
    check_table(table)
    check_lot(table, lot)
    return chance_of(table, lot)


def renamed(table, names):
    """The table in which each outcome has the chances of those that it names."""
    check_table(table)
    if not are_integers(names, 0, MOST_OUTCOMES - 1) or len(names) != len(table):
        raise BadOutcome(names)
    return tuple([named_chance(table, names, name) for name in range(max(names) + 1)])


def named_chance(table, names, name):
    """The chance of all outcomes of a table that one name names."""
    return total([chance for chance, told in zip(table, names) if told == name])


def given_lot(table, lot):
    """The table of the chances if the outcome is known to be in a lot."""
    check_table(table)
    check_lot(table, lot)
    whole = chance_of(table, lot)
    if whole == (0, 1):
        raise BadLot(lot)
    return tuple([divided(chance, whole) if i in lot else (0, 1) for i, chance in enumerate(table)])


def mixed(table, tables):
    """The table that draws one of the tables by the first one, and then by it."""
    check_table(table)
    if not are_tables(tables):
        raise BadTable(tables)
    for part in tables:
        if len(part) != len(tables[0]):
            raise BadTable(part)
    if len(tables) != len(table):
        raise OtherSize(tables)
    return tuple([mixed_chance(table, tables, i) for i in range(len(tables[0]))])


def mixed_chance(table, tables, i):
    """The chance of the outcome i in a table that is mixed."""
    return total([times(chance, part[i]) for chance, part in zip(table, tables)])


def beside(table, other):
    """The table of two draws, the outcome of the second one changing faster."""
    check_table(table)
    check_table(other)
    if len(table) * len(other) > MOST_OUTCOMES:
        raise TooMany(MOST_OUTCOMES)
    return tuple([times(one, two) for one in table for two in other])


def amount_apart(table, other):
    """The distance of two tables, both being right."""
    amounts = total([apart(one, two) for one, two in zip(table, other)])
    return divided(amounts, (2, 1))


def distance(table, other):
    """Half the sum of the amounts by which the chances of two tables differ."""
    check_pair(table, other)
    return amount_apart(table, other)


def judge_near(table, other, fraction):
    """A certificate that the distance of two tables is at most a fraction, or is not."""
    check_pair(table, other)
    check_amount(fraction)
    if not is_above(amount_apart(table, other), fraction):
        return ("within",)
    # The outcomes that are likelier in the first table differ, taken together, by the whole distance.
    return ("lot", tuple([i for i in range(len(table)) if is_above(table[i], other[i])]))


def near_holds(table, other, fraction, thing):
    """Whether any value is a right certificate of judge_near."""
    check_pair(table, other)
    check_amount(fraction)
    if thing == ("within",):
        return not is_above(amount_apart(table, other), fraction)
    if not isinstance(thing, tuple) or len(thing) != 2 or thing[0] != "lot" or not is_lot(thing[1], len(table)):
        return False
    return is_above(apart(chance_of(table, thing[1]), chance_of(other, thing[1])), fraction)


def row_chance(table, row):
    """The chance that draws of a table come to just this row."""
    check_table(table)
    if not are_integers(row, 0, len(table) - 1):
        raise BadRow(row)
    found = (1, 1)
    for i in row:
        found = times(found, table[i])
    return found


def counts_chance(table, counts):
    """The chance that each outcome of a table comes just so often."""
    check_table(table)
    if not are_integers(counts, 0, MOST_COUNT) or len(counts) != len(table):
        raise BadRow(counts)
    drawn = 0
    top = bottom = 1
    for count, chance in zip(counts, table):
        drawn = drawn + count
        # The factorials of [1.4], as the numbers of ways in which one outcome falls among those ahead.
        top = top * comb(drawn, count) * power(chance[0], count)
        bottom = bottom * power(chance[1], count)
    return lowest(top, bottom)
