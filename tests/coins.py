"""Machines for the tests, and what they do, reckoned row by row and by equations of the tests' own."""

import random
from fractions import Fraction
from itertools import product

from support import JUNK

THIRDS_COIN = (2, (("toss", 1, 2), ("out", 1), ("toss", 3, 0), ("out", 0)))
TURNED = (2, (("toss", 2, 1), ("out", 1), ("toss", 3, 0), ("out", 0)))
LOST = (1, (("toss", 1, 2), ("out", 0), ("toss", 2, 2)))
LATE = (2, (("toss", 1, 2), ("out", 0), ("toss", 3, 2), ("out", 1)))
TWICE = (2, (("toss", 1, 1), ("toss", 2, 3), ("out", 0), ("out", 1)))
AT_ONCE = (1, (("out", 0),))
AT_ONCE_OF_EIGHT = (8, (("out", 5),))
COIN = (2, (("toss", 1, 2), ("out", 0), ("out", 1)))
DIE_OF_SIX = (6, (("toss", 1, 2), ("toss", 3, 4), ("toss", 5, 6), ("toss", 1, 7), ("toss", 8, 9), ("toss", 10, 11),
                  ("toss", 2, 12), ("out", 0), ("out", 1), ("out", 2), ("out", 3), ("out", 4), ("out", 5)))
EIGHTHS = (8, tuple([("toss", 2 * k + 1, 2 * k + 2) for k in range(7)] + [("out", i) for i in range(8)]))
NEVER = (1, (("toss", 0, 0),))
NEVER_OF_THREE = (3, (("toss", 1, 2), ("toss", 2, 0), ("toss", 0, 1)))
# A lot of two tosses, to which the second bit can lead; and the same lot where nothing leads to it.
TRAP = (2, (("toss", 1, 2), ("out", 0), ("toss", 3, 5), ("toss", 4, 3), ("toss", 3, 4), ("out", 1)))
TRAP_APART = (2, (("toss", 1, 2), ("out", 0), ("toss", 0, 5), ("toss", 4, 3), ("toss", 3, 4), ("out", 1)))
TWO_TRAPS = (1, (("toss", 1, 2), ("toss", 3, 4), ("toss", 5, 5), ("toss", 3, 3), ("out", 0), ("toss", 2, 5)))
# Waits for the bit 1, which may never come, behind each bit 0.
WAITING = (1, (("toss", 0, 1), ("out", 0)))
ANY_BIT = (1, (("toss", 1, 1), ("out", 0)))
# Standings that cannot be reached: an outcome, a toss to others, a toss to itself.
UNREACHED = (3, (("toss", 3, 1), ("out", 2), ("toss", 0, 1), ("out", 0), ("out", 1), ("toss", 5, 5), ("toss", 5, 4)))
SAME_FOLLOWERS = (2, (("toss", 1, 1), ("toss", 2, 2), ("toss", 3, 4), ("out", 1), ("out", 0)))


def chain(many):
    """A machine of so many standings, 3 at least: a row of tosses, each of which ends by 0, and the last one by 1."""
    tosses = [("toss", many - 2, k + 1) for k in range(many - 3)]
    return (2, tuple(tosses + [("toss", many - 2, many - 1), ("out", 0), ("out", 1)]))


def ring(many):
    """A machine of so many standings, 4 at least: a round of tosses, each of which may end, in turn at 0 and at 1."""
    last = many - 2
    tosses = [("toss", last + k % 2, (k + 1) % last) for k in range(last)]
    return (2, tuple(tosses + [("out", 0), ("out", 1)]))


NAMED = (THIRDS_COIN, TURNED, LOST, LATE, TWICE, AT_ONCE, AT_ONCE_OF_EIGHT, COIN, DIE_OF_SIX, EIGHTHS, NEVER,
         NEVER_OF_THREE, TRAP, TRAP_APART, TWO_TRAPS, WAITING, ANY_BIT, UNREACHED, SAME_FOLLOWERS, chain(3), chain(10),
         ring(9))
SIXTY = (chain(60), ring(60))


def all_machines(n, many):
    """All machines with n outcomes and so many standings."""
    kinds = [("toss", a, b) for a in range(many) for b in range(many)] + [("out", i) for i in range(n)]
    return [(n, standings) for standings in product(kinds, repeat=many)]


SMALL = all_machines(1, 1) + all_machines(2, 1) + all_machines(1, 2) + all_machines(2, 2) + all_machines(2, 3)


def some_machines(seed, many, most=60, shares=(0.1, 0.3, 0.6)):
    """So many machines, the same for a seed each time, with up to most standings and 1 to 8 outcomes."""
    source = random.Random(seed)
    found = []
    for k in range(many):
        n, size, share = source.randrange(1, 9), source.randrange(1, most + 1), shares[k % len(shares)]
        standings = []
        for _ in range(size):
            if source.random() < share:
                standings.append(("out", source.randrange(n)))
            else:
                standings.append(("toss", source.randrange(size), source.randrange(size)))
        found.append((n, tuple(standings)))
    return found


MIXED = some_machines(1, 60, 12) + some_machines(2, 20)
MACHINES = NAMED + SIXTY + tuple(MIXED)

WRONG_MACHINES = JUNK + (
    (), 1, 2, (1,), (1, ()), (1, (), ()), [1, (("out", 0),)], (1, [("out", 0)]), (1, (["out", 0],)), (1, ("out", 0)),
    (("out", 0),), (1, (("out", 0),), 0), (True, (("out", 0),)), (1, (("out", False),)), (2, (("out", True),)),
    (0, (("out", 0),)), (0, (("toss", 0, 0),)), (-1, (("out", 0),)), (9, (("out", 0),)), ("1", (("out", 0),)),
    (None, (("out", 0),)), (1, (("out", 1),)), (8, (("out", 8),)), (1, (("out", -1),)), (1, (("out", 10 ** 99),)),
    (1, (("out",),)), (1, (("out", 0, 0),)), (1, (("Out", 0),)), (1, (("end", 0),)), (1, ((0, "out"),)),
    (1, (("out", "0"),)), (1, (("out", None),)), (1, (("out", (0,)),)), (1, (("toss", 0),)), (1, (("toss",),)),
    (1, (("toss", 0, 0, 0),)), (1, (("toss", 0, 1),)), (1, (("toss", 1, 0),)), (1, (("toss", -1, 0),)),
    (1, (("toss", 0, -1),)), (1, (("toss", 0, False),)), (1, (("toss", False, 0),)), (1, (("TOSS", 0, 0),)),
    (1, (("toss", 0, None),)), (1, (("toss", "0", 0),)), (1, (("toss", (0,), 0),)), (1, (["toss", 0, 0],)),
    (1, (("out", 0, 1),)), (1, (0,)), (1, (None,)), (1, ((),)), (1, (("out", 0), ())), (1, (("out", 0), None)),
    (1, (("toss", 1, 1), ("out", 0), ("toss", 0, 3))), (2, (("toss", 1, 2), ("out", 0), ("out", 2))),
    (1, {0: ("out", 0)}), {1: (("out", 0),)}, "(1, (('out', 0),))", (1, "out"), (1, (("out", 0),) * 59 + (("out",),)),
    (1.0, (("out", 0),)), (1, (("out", 0.0),)), (1, (1, ("out", 0))), ((1, (("out", 0),)),), (10 ** 99, (("out", 0),)),
    ((1, 2), (1, 2)), ((), ()), (2, (("toss", 1, 2), ("out", 0), ["out", 1])), (1, (((("toss", 0, 0),),),)))

WRONG_BITS = [thing for thing in JUNK if thing != ()] + [
    0, 1, [0], [], [0, 1], (2,), (-1,), (0, 2), (0, 1, 2), (True,), (False,), (0, True), (0, 0, False), ("0",), "01",
    "", (None,), ((0,),), (0, (1,)), ((),), (0, 1, None), (10 ** 99,), {0: 1}, (0.0,), (0, 1.0), (0,) * 399 + (2,)]


def followed(machine, row):
    """The run of a row, bit by bit."""
    n, standings = machine
    at = 0
    taken = 0
    while standings[at][0] == "toss":
        if taken == len(row):
            return None
        at = standings[at][row[taken] + 1]
        taken += 1
    return (standings[at][1], taken)


def come_to(machine, row, start=0):
    """The standing to which a whole row leads, None if the machine ends earlier."""
    at = start
    for bit in row:
        if machine[1][at][0] == "out":
            return None
        at = machine[1][at][bit + 1]
    return at


def rows(k):
    """All rows of k bits."""
    return product((0, 1), repeat=k)


def numbers(machine, most):
    """A list, for each length up to most, of how many rows of it end at each outcome: each row followed by itself."""
    found = [[0] * machine[0] for _ in range(most + 1)]
    for k in range(most + 1):
        for row in rows(k):
            told = followed(machine, row)
            if told is not None and told[1] == k:
                found[k][told[0]] += 1
    return found


def standings_reached(machine, start=0):
    """All standings to which some row leads, by adding followers until none is added."""
    found = {start}
    while True:
        more = {after for at in found if machine[1][at][0] == "toss" for after in machine[1][at][1:]}
        if more <= found:
            return found
        found |= more


def is_sure(machine):
    """Whether from each standing that can be reached an outcome can be."""
    return all([any([machine[1][at][0] == "out" for at in standings_reached(machine, start)])
                for start in standings_reached(machine)])


def own_chances(machine):
    """The chances from each standing that can be reached, and the mean number of bits if the machine ends surely.

    By Gaussian elimination with fractions of Python's own, all columns at once; tosses from which no outcome can be
    reached have the chances 0.
    """
    n, standings = machine
    there = sorted(standings_reached(machine))
    place = {at: k for k, at in enumerate(there)}
    system = []
    for at in there:
        row = [Fraction(0)] * (len(there) + n + 1)
        row[place[at]] += 1
        if standings[at][0] == "out":
            row[len(there) + standings[at][1]] += 1
        elif any([standings[after][0] == "out" for after in standings_reached(machine, at)]):
            for after in standings[at][1:]:
                row[place[after]] -= Fraction(1, 2)
            row[-1] += 1
        system.append(row)
    for k in range(len(there)):
        pivot = next(j for j in range(k, len(there)) if system[j][k] != 0)
        system[k], system[pivot] = system[pivot], system[k]
        system[k] = [number / system[k][k] for number in system[k]]
        for j in range(len(there)):
            if j != k and system[j][k] != 0:
                factor = system[j][k]
                system[j] = [one - factor * other for one, other in zip(system[j], system[k])]
    chances = {at: system[place[at]][len(there):-1] for at in there}
    return chances, system[place[0]][-1]


def own_digit(number, k):
    """The digit of a fraction at the place k behind the point."""
    return number * 2 ** k // 1 % 2


def own_floor(chances, t):
    """The floor of chances at t, as what their digits up to the place t leave of 1."""
    return 1 - sum([number * 2 ** t // 1 for number in chances]) / Fraction(2 ** t)
