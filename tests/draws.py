"""Programs for the tests, and what they mean, reckoned draw by draw."""

import random
from fractions import Fraction

from support import EDGE, EIGHT, HALVES, JUNK, LONG, SKEW, THIRDS, UNEVEN, WRONG_TABLES, table_of, told

LEFT = ((1, 3), (2, 3))
COIN, OPEN = ("draw", HALVES), ("place", 0, 2)
ONE = ("value", 2, 1)
DIE = ("again", ("bind", COIN, (("map", COIN, (0, 1), 4), ("map", COIN, (2, 3), 4))), (0, 1, 2))
BOTH, SWAP = ("bind", OPEN, (OPEN, ONE)), ("map", OPEN, (1, 0), 2)
THREE = ("place", 3, 3)
# In "bind" and "map" places of several names, and one name more than once.
MANY_OPEN = ("bind", THREE, (OPEN, SWAP, ("bind", ("place", 1, 1), (("map", THREE, (1, 0, 1), 2),))))

WRONG_LOTS_OF_COIN = JUNK + (0, (2,), (0, 2), (-1,), (1, 0), (0, 0), (0, 1, 1), [0], (True,), (False,), (0, True),
                             ("0",), ((0,),), (None,), (0, None), {0: 1}, (10 ** 99,), (0.0,), ((0, 1),), ())
WRONG_NAMES_OF_COIN = JUNK + (0, (), (0,), (0, 1, 0), (0, 3), (-1, 0), [0, 1], (0, True), (False, 1), ("0", "1"),
                              ((0, 1),), (0, None), {0: 1}, (0, 10 ** 99), (0.0, 1), (3, 3))
WRONG_SIZES = JUNK + (0, 9, -1, "2", (2,), [2], 2.0, 10 ** 99)


def wrong_programs():
    """Values that are no programs, each for one reason."""
    found = list(JUNK) + [0, 1, (), "value", ("value",), ("draw",), ("place",), ("bind",), ("again",), ("map",)]
    found += [("value", 2), ("value", 2, 1, 0), ["value", 2, 1], ("Value", 2, 1), ("value", 2, 2), ("value", 2, -1),
              ("value", 1, 1), ("value", 8, 8), ("value", 2, True), ("value", True, 0), ("value", 2, "1"),
              ("value", 2, None), ("value", 2, (1,)), (2, 1), (("value", 2, 1),), ("value", (2, 1)), (None, 2, 1)]
    found += [("value", n, 0) for n in WRONG_SIZES] + [("place", 0, n) for n in WRONG_SIZES]
    found += [("draw", table) for table in WRONG_TABLES] + [("draw", HALVES, HALVES), ["draw", HALVES], HALVES,
                                                            ("Draw", HALVES), ("draw", COIN), (("draw", HALVES),)]
    found += [("place", name, 2) for name in JUNK + (4, -1, "0", (0,), 0.0, 10 ** 99)]
    found += [("place", 0), ("place", 0, 2, 0), ["place", 0, 2], ("Place", 0, 2), ("place", (0, 2)), ("open", 0, 2)]
    wrong_ones = [None, True, 0, (), [], {}, "value", list(COIN), ("value", 2, 2), ("draw", ((1, 2), (1, 3))), HALVES,
                  ("again", OPEN, (0,)), ("map", COIN, (0, 2), 2)]
    for part in wrong_ones:
        found += [("bind", part, (COIN, COIN)), ("bind", COIN, (COIN, part)), ("bind", COIN, (part, COIN)),
                  ("again", part, (0,)), ("map", part, (0, 1), 2)]
    found += [("bind", COIN), ("bind", COIN, (COIN, COIN), 2), ("bind", COIN, ()), ("bind", COIN, (COIN,)),
              ("bind", COIN, (COIN, COIN, COIN)), ("bind", COIN, [COIN, COIN]), ["bind", COIN, (COIN, COIN)],
              ("Bind", COIN, (COIN, COIN)), ("bind", COIN, (COIN, ("draw", THIRDS))), ("bind", COIN, COIN, COIN),
              ("bind", COIN, (("value", 3, 1), ONE)), ("bind", OPEN, (COIN, ("value", 1, 0))), ("bind", COIN, None),
              ("bind", ("value", 3, 1), (COIN, COIN)), ("bind", COIN, COIN), ("bind", (COIN, COIN), COIN),
              ("bind", COIN, {0: COIN, 1: COIN}), ("bind", COIN, ((COIN, COIN),)), ("bind", COIN, (COIN, COIN, ()))]
    found += [("again", COIN, lot) for lot in WRONG_LOTS_OF_COIN]
    found += [("again", COIN), ("again", COIN, (0,), (0,)), ["again", COIN, (0,)], ("Again", COIN, (0,)),
              ("again", (0,), COIN), ("again", ("draw", EDGE), (0,)), ("again", ("draw", SKEW), (1,)),
              ("again", ("value", 3, 1), (0, 2)), ("again", OPEN, (0, 1)), ("again", MANY_OPEN, (1,)),
              ("again", ("bind", COIN, (COIN, OPEN)), (0,)), ("again", ("map", ("place", 0, 1), (0,), 1), (0,)),
              ("again", ("bind", ("draw", EDGE), (ONE, ("value", 2, 0))), (1,)),
              ("again", ("again", ("draw", THIRDS), (0, 1)), (2,)), ("again", ("map", COIN, (0, 0), 2), (1,))]
    found += [("map", COIN, names, 3) for names in WRONG_NAMES_OF_COIN]
    found += [("map", COIN, (0, 0), n) for n in WRONG_SIZES]
    found += [("map", COIN, (0, 1)), ("map", COIN, (0, 1), 2, 2), ["map", COIN, (0, 1), 2], ("Map", COIN, (0, 1), 2),
              ("map", COIN, (0, 1), 1), ("map", (0, 1), COIN, 2), ("map", COIN, 2, (0, 1)), ("map", COIN, (7, 8), 8)]
    found += [("bind", OPEN, (("place", 0, 3), THREE)), ("bind", ("place", 1, 2), (("place", 1, 1), ("place", 2, 1))),
              ("bind", COIN, (OPEN, ("map", ("place", 0, 3), (0, 1, 1), 2))),
              ("map", ("bind", ("place", 2, 1), (("place", 2, 8),)), (0,) * 8, 1)]
    return found


WRONG_PROGRAMS = wrong_programs()


def sized(many):
    """A program with 2 outcomes and just so many parts, from 10 to 82, at most 4 deep."""
    sizes = [1] * 8
    left = many - 10
    for k in range(8):
        sizes[k] += min(left, 9)
        left -= sizes[k] - 1
    return ("bind", ("draw", EIGHT), tuple([sized_case(size) for size in sizes]))


def sized_case(size):
    if size < 3:
        return ONE if size == 1 else ("map", COIN, (1, 0), 2)
    return ("bind", ("draw", ((1, size - 2),) * (size - 2)), (ONE,) * (size - 2))


def nested(many, inner, kind):
    """A program that is so much deeper than the inner one, which has 2 outcomes."""
    for _ in range(many):
        if kind == "map":
            inner = ("map", inner, (1, 0), 2)
        if kind == "again":
            inner = ("again", inner, (0, 1))
        if kind == "bind":
            inner = ("bind", inner, (ONE, ("value", 2, 0)))
        if kind == "case":
            inner = ("bind", COIN, (ONE, inner))
    return inner


def parts(program):
    """The programs in a program, each as often as it stands there, with how deep it stands."""
    found = [(program, 1)]
    inner = {"bind": lambda: (program[1],) + program[2], "again": lambda: program[1:2], "map": lambda: program[1:2]}
    for part in inner.get(program[0], tuple)():
        found += [(there, deep + 1) for there, deep in parts(part)]
    return found


def own_size(program):
    if program[0] == "draw":
        return len(program[1])
    if program[0] == "bind":
        return own_size(program[2][-1])
    if program[0] == "again":
        return own_size(program[1])
    return {"value": lambda: program[1], "place": lambda: program[2], "map": lambda: program[3]}[program[0]]()


def own_places(program):
    return sorted({part[1:] for part, _ in parts(program) if part[0] == "place"})


def own_meaning(program, tables):
    """The chances of the outcomes, told those of the places: draw by draw, an "again" as a sum of powers."""
    chances = [Fraction(0)] * own_size(program)
    if program[0] == "value":
        chances[program[2]] += 1
    if program[0] in ("draw", "place"):
        chances = told(program[1] if program[0] == "draw" else tables[program[1]])
    if program[0] == "bind":
        for i, chance in enumerate(own_meaning(program[1], tables)):
            for v, other in enumerate(own_meaning(program[2][i], tables)):
                chances[v] += chance * other
    if program[0] == "again":
        found = own_meaning(program[1], tables)
        missed = sum([chance for v, chance in enumerate(found) if v not in program[2]])
        for v in program[2]:
            # Behind k times outside the lot: the sum of missed ** k is 1 / (1 - missed).
            chances[v] = found[v] / (1 - missed)
    if program[0] == "map":
        for i, chance in enumerate(own_meaning(program[1], tables)):
            chances[program[2][i]] += chance
    return chances


class Source:
    """Makes programs at random, the same ones for a seed each time."""

    def __init__(self, seed):
        self.source = random.Random(seed)

    def table(self, n):
        numbers = [self.source.choice((0, 1, 1, 2, 3, 5)) for _ in range(n)]
        numbers[self.source.randrange(n)] += 1
        if self.source.random() < 0.2:
            numbers = [int(k == 0) for k in range(n)]
        return table_of([Fraction(number, sum(numbers)) for number in numbers])

    def program(self, n, deep, is_open):
        kind = self.source.choice(("value", "draw", "draw", "place", "bind", "bind", "again", "map", "map"))
        if kind == "place" and is_open:
            # The places of a name have one number of outcomes: the name 3 stands for all numbers above 3.
            return ("place", n - 1, n) if n < 4 else ("draw", self.table(n))
        if deep == 1 or kind in ("value", "draw", "place"):
            return ("value", n, self.source.randrange(n)) if kind == "value" else ("draw", self.table(n))
        if kind == "bind":
            many = self.source.choice((1, 2, 2, 3))
            inner = self.program(many, deep - 1, is_open)
            cases = tuple([self.program(n, deep - 1, is_open) for _ in range(many)])
            return ("bind", inner, cases[:1] * many if self.source.random() < 0.2 else cases)
        if kind == "map":
            many = self.source.choice((1, 2, 3, n))
            names = tuple([self.source.randrange(n) for _ in range(many)])
            names = tuple(range(n)) if many == n and self.source.random() < 0.4 else names
            return ("map", self.program(many, deep - 1, is_open), names, n)
        inner = self.program(n, deep - 1, False)
        there = [v for v, chance in enumerate(own_meaning(inner, {})) if chance > 0]
        lot = {self.source.choice(there)} | {v for v in range(n) if self.source.random() < 0.4}
        return ("again", inner, tuple(sorted(lot)))

    def programs(self, many, is_open):
        found = []
        while len(found) < many:
            made = self.program(self.source.randrange(1, 9), self.source.randrange(1, 9), is_open)
            if len(parts(made)) <= 40:
                found.append(made)
        return found

    def fillings(self, program):
        return tuple([(name, self.table(n)) for name, n in own_places(program)])


CLOSED = [COIN, DIE, ONE, ("value", 1, 0), ("value", 8, 7), ("draw", UNEVEN), ("draw", LONG), sized(40),
          nested(7, COIN, "map"), nested(7, COIN, "again"), nested(7, COIN, "bind"), nested(7, COIN, "case"),
          ("map", COIN, (7, 7), 8), ("again", COIN, (0, 1)), ("again", ("draw", SKEW), (0, 1, 3))]
OPEN_ONES = [OPEN, BOTH, SWAP, THREE, MANY_OPEN, ("place", 3, 8), ("place", 2, 1), nested(7, OPEN, "map"),
             nested(7, OPEN, "bind"), nested(7, OPEN, "case"), ("bind", OPEN, (("value", 8, 0), ("draw", EIGHT)))]
PROGRAMS = CLOSED + OPEN_ONES + Source(1).programs(150, False) + Source(2).programs(250, True)
ALL_CLOSED = [program for program in PROGRAMS if not own_places(program)]
ALL_OPEN = [program for program in PROGRAMS if own_places(program)]
