"""Coin machines: their runs, their rows counted, whether they end surely, their chances and means."""

from drawnbits.common import added, are_integers, are_pairs, check_number, divided, is_above, is_lot, is_number
from drawnbits.common import is_within, lowest
from drawnbits.equations import solved
from drawnbits.errors import BadBits, BadMachine, BadOutcome, Endless, OtherSize
from drawnbits.standings import chances_from, doubled_with, ended, exits_of, followers, going_on, half_each, is_out
from drawnbits.standings import is_standing, led_on, led_to, row_out, rows_behind, stays_within, sure_chances
from drawnbits.standings import tosses_that_end, ways_from
from drawnbits.tables import MOST_OUTCOMES, are_amounts, check_table
from drawnbits.walks import steps_to


def is_machine(thing):
    """Whether any value is a coin machine."""
    if not isinstance(thing, tuple) or len(thing) != 2:
        return False
    n, standings = thing
    if not is_within(n, 1, MOST_OUTCOMES) or not isinstance(standings, tuple) or standings == ():
        return False
    return all([is_standing(standing, n, len(standings)) for standing in standings])


def are_bits(thing):
    """Whether any value is a row of bits."""
    return are_integers(thing, 0, 1)


def check_bits(bits):
    """Raises the error of a value that is no row of bits."""
    if not are_bits(bits):
        raise BadBits(bits)


def check_machine(machine):
    """Raises the error of a value that is no machine."""
    if not is_machine(machine):
        raise BadMachine(machine)


def run(machine, bits):
    """The outcome with which the machine ends and how many of the bits it takes, None if it does not end."""
    check_machine(machine)
    check_bits(bits)
    at, taken = led_to(machine[1], 0, bits)
    return (machine[1][at][1], taken) if is_out(machine[1][at]) else None


def reached(machine):
    """The ascending tuple of the standings that can be reached."""
    check_machine(machine)
    return tuple(sorted(ways_from(machine[1], 0)))


def many_rows(machine, i, k):
    """The number of rows of k bits that end at an outcome."""
    check_machine(machine)
    if not is_within(i, 0, machine[0] - 1):
        raise BadOutcome(i)
    check_number(k)
    return ended(machine, rows_behind(machine[1], k))[i]


def chances_within(machine, t):
    """The chance of each outcome to be come to behind at most t bits."""
    check_machine(machine)
    check_number(t)
    rows = {0: 1}
    tops = ended(machine, rows)
    for _ in range(t):
        rows = led_on(machine[1], rows)
        tops = doubled_with(tops, ended(machine, rows))
    return tuple([lowest(top, 1 << t) for top in tops])


def tail(machine, t):
    """The chance of needing more than t bits."""
    check_machine(machine)
    check_number(t)
    return lowest(going_on(machine[1], rows_behind(machine[1], t)), 1 << t)


def judge_ends(machine):
    """A certificate that a machine ends surely, or does not."""
    check_machine(machine)
    standings = machine[1]
    exits = exits_of(standings)
    came = ways_from(standings, 0)
    for at in came:
        if at not in exits:
            return ("closed", steps_to(came, at), tuple(sorted(ways_from(standings, at))))
    return ("sure", tuple([(at, row_out(standings, exits, at)) for at in sorted(came)]))


def ends_hold(machine, thing):
    """Whether any value is a right certificate of judge_ends."""
    check_machine(machine)
    if not isinstance(thing, tuple) or thing == ():
        return False
    if thing[0] == "sure":
        return len(thing) == 2 and are_ways_out(machine, thing[1])
    return thing[0] == "closed" and len(thing) == 3 and is_way_into(machine[1], thing[1], thing[2])


def are_ways_out(machine, thing):
    """Whether any value tells, for each standing that can be reached, bits that lead from it to an outcome."""
    if not are_pairs(thing, reached(machine)):
        return False
    return all([is_way_out(machine[1], at, bits) for at, bits in thing])


def is_way_out(standings, start, thing):
    """Whether any value is a row of bits that leads from a standing to an outcome just at its end."""
    if not are_bits(thing):
        return False
    at, taken = led_to(standings, start, thing)
    return is_out(standings[at]) and taken == len(thing)


def is_way_into(standings, bits, lot):
    """Whether any values are a row of bits and a closed lot of standings into which it leads."""
    if not are_bits(bits) or not is_lot(lot, len(standings)):
        return False
    # In a lot of tosses no machine has ended, so all of the bits are taken.
    at, _ = led_to(standings, 0, bits)
    return at in lot and all([stays_within(standings[k], lot) for k in lot])


def does_end(machine):
    """Whether a machine ends surely."""
    return judge_ends(machine)[0] == "sure"


def check_end(machine):
    """Raises the errors of a value that is no machine which ends surely."""
    certificate = judge_ends(machine)
    if certificate[0] == "closed":
        raise Endless(certificate)


def chances(machine):
    """The chances of all outcomes."""
    check_machine(machine)
    return chances_from(machine)[0]


def drawn_table(machine):
    """The table that a machine draws which ends surely."""
    check_end(machine)
    return chances_from(machine)[0]


def mean(machine):
    """The mean number of bits that a machine takes which ends surely."""
    check_end(machine)
    standings = machine[1]
    unknown = {at: True for at in tosses_that_end(machine)}
    values = solved({at: half_each(standings[at], at, unknown, (2,)) for at in unknown})
    # It is known only if the machine ends at once.
    return values.get(0, ((0, 1),))[0]


def check_drawing(machine, table):
    """Raises the errors of values that are no machine which ends surely and table with as many outcomes."""
    check_machine(machine)
    check_table(table)
    if len(table) != machine[0]:
        raise OtherSize(table)
    check_end(machine)


def judge_table(machine, table):
    """A certificate that a machine draws a table, or does not."""
    check_drawing(machine, table)
    found = chances_from(machine)
    likelier = [i for i in range(len(table)) if is_above(found[0][i], table[i])]
    if likelier:
        return first_over(machine, table, likelier, None)
    return ("draws", tuple([(at, found[at]) for at in sorted(found)]))


def first_over(machine, table, likelier, most):
    """The certificate for the first t, up to most, at which one of some outcomes is over its chance in the table.

    With most None there must be such a t.
    """
    rows = {0: 1}
    tops = ended(machine, rows)
    t = 0
    while most is None or t <= most:
        for i in likelier:
            if is_above((tops[i], 1 << t), table[i]):
                return ("over", i, t)
        rows = led_on(machine[1], rows)
        tops = doubled_with(tops, ended(machine, rows))
        t = t + 1
    return None


def table_holds(machine, table, thing):
    """Whether any value is a right certificate of judge_table."""
    check_drawing(machine, table)
    if not isinstance(thing, tuple) or thing == ():
        return False
    if thing[0] == "draws":
        return len(thing) == 2 and are_chances_from(machine, table, thing[1])
    if thing[0] != "over" or len(thing) != 3 or not is_within(thing[1], 0, len(table) - 1) or not is_number(thing[2]):
        return False
    # Chances within t bits only come near to the chance: without this, a long t could be looked up for nothing.
    if not is_above(chances_from(machine)[0][thing[1]], table[thing[1]]):
        return False
    return first_over(machine, table, [thing[1]], thing[2]) is not None


def are_chances_from(machine, table, thing):
    """Whether any value tells the chances from all standings that can be reached, from the beginning the table."""
    if not are_pairs(thing, reached(machine)) or not all([are_amounts(told, len(table)) for _, told in thing]):
        return False
    found = {at: told for at, told in thing}
    return found[0] == table and all([is_told_right(machine, found, at) for at in found])


def is_told_right(machine, found, at):
    """Whether the chances from a standing are those that the standing, or its followers' chances, tell."""
    n, standings = machine
    if is_out(standings[at]):
        return found[at] == sure_chances(n, standings[at][1])
    one, other = followers(standings[at])
    return found[at] == tuple([divided(added(a, b), (2, 1)) for a, b in zip(found[one], found[other])])
