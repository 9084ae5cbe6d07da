"""Machines judged for all t: floors, least means, best machines, and what others waste."""

from math import lcm

from drawnbits.common import apart, check_number, is_power_of_two, lowest, total
from drawnbits.figures import digit, figures, rest_at, weight
from drawnbits.machines import are_bits, check_end, drawn_table, mean, run
from drawnbits.standings import chances_from, followers, going_on, is_out, led_on, ways_from
from drawnbits.tables import check_table
from drawnbits.walks import steps_to, walked


def floor_at(table, t):
    """The least chance of needing more than t bits that a machine can have which draws a table."""
    check_table(table)
    check_number(t)
    return lowest(rests_at(table, t), 1 << t)


def rests_at(table, t):
    """The sum of the rests of all chances behind t digits: an integer, as the chances add up to 1."""
    return total([rest_at(chance, t) for chance in table])[0]


def least_mean(table):
    """The least mean number of bits of a machine that draws a table."""
    check_table(table)
    return total([weight(chance) for chance in table])


def judge_best(machine):
    """A certificate that a machine is best, or is not."""
    check_end(machine)
    rows = rows_twice(machine[1])
    if rows is not None:
        return ("twice", rows[0], rows[1])
    late = row_late(machine)
    return ("best",) if late is None else ("late", late)


def rows_twice(standings):
    """Two unlike rows of one length that end at one outcome, the shortest such; None if there are none."""
    # A node is the pair of the standings of both rows, and whether the rows are still the same.
    came = walked((0, 0, True), lambda node: both_followers(standings, node))
    for node in came:
        one, other, is_same = node
        if not is_same and is_out(standings[one]) and standings[one] == standings[other]:
            return rows_apart(came, node)
    return None


def both_followers(standings, node):
    """The nodes behind one, for the bits 0 and 0, 0 and 1, 1 and 0, 1 and 1; none if a row ends there."""
    one, other, is_same = node
    found = []
    for bit, after in enumerate(followers(standings[one])):
        for another, later in enumerate(followers(standings[other])):
            found.append((after, later, is_same and bit == another))
    return found


def rows_apart(came, node):
    """The rows of bits of both rows that lead to a node."""
    steps = steps_to(came, node)
    return (tuple([step // 2 for step in steps]), tuple([step & 1 for step in steps]))


def row_late(machine):
    """A row that is longer than the digits of its outcome's chance, which have no round; None if there is none.

    Where no outcome has two rows of one length, the numbers of its rows could be the digits of its chance. They are
    not so only if they are 1 from some place on: then the figures have no round, and some rows are too long.
    """
    standings = machine[1]
    for i, chance in enumerate(chances_from(machine)[0]):
        most = many_digits(chance)
        if most is not None:
            row = row_above(standings, ("out", i), most)
            if row is not None:
                return row
    return None


def many_digits(chance):
    """The number of digits of a chance behind the point, None if they come again and again without an end."""
    bottom = chance[1]
    return bottom.bit_length() - 1 if is_power_of_two(bottom) else None


def row_above(standings, end, most):
    """A row of more than so many bits that leads to a standing like end; None if there is none."""
    level = {0: ()}
    for _ in range(most):
        level = one_bit_more(standings, level)
    for start, row in level.items():
        came = ways_from(standings, start)
        for at in came:
            # Behind the last of just so many bits at least one more has to come.
            if at != start and standings[at] == end:
                return row + steps_to(came, at)
    return None


def one_bit_more(standings, level):
    """A row of one bit more for each standing to which such a row leads, told a row for each one ahead."""
    found = {}
    for at, row in level.items():
        for bit, after in enumerate(followers(standings[at])):
            if after not in found:
                found[after] = row + (bit,)
    return found


def best_holds(machine, thing):
    """Whether any value is a right certificate of judge_best."""
    check_end(machine)
    if thing == ("best",):
        return judge_best(machine) == ("best",)
    if not isinstance(thing, tuple) or thing == () or not all([are_bits(row) for row in thing[1:]]):
        return False
    if thing[0] == "twice" and len(thing) == 3:
        return are_twice(machine, thing[1], thing[2])
    return thing[0] == "late" and len(thing) == 2 and is_late(machine, thing[1])


def are_twice(machine, one, other):
    """Whether two rows of bits are unlike, of one length, and end at one outcome."""
    came_to = run(machine, one)
    if one == other or came_to is None or came_to[1] != len(one):
        return False
    return len(one) == len(other) and run(machine, other) == came_to


def is_late(machine, bits):
    """Whether a row of bits is longer than the digits of its outcome's chance, which have no round."""
    came_to = run(machine, bits)
    if came_to is None or came_to[1] != len(bits):
        return False
    most = many_digits(drawn_table(machine)[came_to[0]])
    return most is not None and len(bits) > most


def waste(machine):
    """The mean number of bits of a machine above the least one for the table that it draws."""
    return apart(mean(machine), least_mean(drawn_table(machine)))


def first_waste(machine):
    """The least t at which the tail of a machine is above the floor of the table that it draws, None if it is best."""
    if judge_best(machine) == ("best",):
        return None
    return first_above(machine[1], drawn_table(machine))


def first_above(standings, table):
    """The least t at which the tail of a machine is above the floor of the table that it draws; there must be one."""
    rows = {0: 1}
    t = 0
    while going_on(standings, rows) == rests_at(table, t):
        rows = led_on(standings, rows)
        t = t + 1
    return t


def best_machine(table):
    """A machine that draws a table and whose tail is the floor of the table at all t.

    The tree of all rows of bits has a node of each level t for each row that has not ended: as many as the rests of
    the chances behind t digits add up to. Of the nodes of the next level, as many end at an outcome as the digit of
    its chance tells. Behind the digits ahead the levels come again after a common length of all rounds.
    """
    check_table(table)
    told = [figures(chance) for chance in table]
    again = max([len(found[1]) for found in told])
    end = again + common_length([found[2] for found in told])
    starts = starts_of_levels(table, end)
    standings = []
    for t in range(end):
        behind = again if t + 1 == end else t + 1
        nodes = ends_at(table, t + 1, starts[end]) + list(range(starts[behind], starts[behind + 1]))
        standings.extend([("toss", nodes[k], nodes[k + 1]) for k in range(0, len(nodes), 2)])
    return (len(table), tuple(standings + [("out", i) for i, chance in enumerate(table) if chance[0] > 0]))


def common_length(cycles):
    """The least length that is a multiple of those of all rounds that are not ()."""
    found = 1
    for cycle in cycles:
        if cycle != ():
            found = lcm(found, len(cycle))
    return found


def starts_of_levels(table, end):
    """The position of the first toss of each level below end, and of what comes behind them."""
    found = [0]
    for t in range(end):
        found.append(found[t] + rests_at(table, t))
    return found


def ends_at(table, k, first):
    """The positions, from first on, of the outcomes that end behind k bits; only outcomes that come have one."""
    drawn = [chance for chance in table if chance[0] > 0]
    return [first + at for at, chance in enumerate(drawn) if digit(chance, k) == 1]
