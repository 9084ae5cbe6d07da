"""Models for the tests, and their ways, reckoned way by way."""

import random
from fractions import Fraction
from itertools import product

from support import EDGE, HALVES, JUNK, SURE, THIRDS, WRONG_TABLES, fraction, table_of, told

ONE = ((((1, 3), (2, 3)), (0, 0)),)
FAIR = ((HALVES, (0, 0)),)
# One outcome alone, in one state and in three.
ALONE = ((SURE, (0,)),)
ALONE_OF_THREE = ((SURE, (2,)), (SURE, (0,)), (SURE, (1,)))
# Chances of 0 and 1; the state 1 is never come to, though a follower names it.
NEVER_COME_TO = ((((1, 2), (0, 1), (1, 2)), (0, 1, 2)), (THIRDS, (0, 1, 2)), (((0, 1), (1, 1), (0, 1)), (0, 0, 2)))
ALWAYS_LAST = ((EDGE, (0, 0)),)
IN_TURN = ((EDGE, (0, 1)), (HALVES, (0, 0)))
DYADIC = ((((1, 2), (1, 4), (1, 4)), (0, 1, 0)), (((1, 8), (0, 1), (7, 8)), (1, 0, 0)))
FIVE = ((((1, 10), (1, 5), (3, 10), (0, 1), (2, 5)), (0, 0, 0, 0, 0)),)
SIX = tuple([(table, ((k + 1) % 6, (2 * k) % 6, 5 - k)) for k, table in enumerate((
    THIRDS, ((1, 2), (1, 4), (1, 4)), ((1, 7), (2, 7), (4, 7)), ((0, 1), (1, 2), (1, 2)), ((1, 1), (0, 1), (0, 1)),
    ((3, 10), (3, 10), (2, 5))))])
FINE = ((((1, 100), (99, 100)), (0, 1)), (((99, 100), (1, 100)), (0, 1)))
SEVENTEENTHS = ((((1, 17), (1, 17), (13, 17), (1, 17), (1, 17)), (0, 1, 0, 1, 0)), (
    ((16, 17), (0, 1), (0, 1), (0, 1), (1, 17)), (1, 1, 1, 1, 0)))
NAMED = (ONE, FAIR, ALONE, ALONE_OF_THREE, NEVER_COME_TO, ALWAYS_LAST, IN_TURN, DYADIC, FIVE, SIX, FINE, SEVENTEENTHS)


def some_models(seed, many):
    """So many models at random, the same ones for a seed each time, with small bottoms."""
    source = random.Random(seed)
    found = []
    for _ in range(many):
        states, n = source.choice((1, 1, 2, 3, 6)), source.choice((1, 2, 2, 3, 5))
        model = []
        for _ in range(states):
            numbers = [source.choice((0, 1, 1, 2, 3)) for _ in range(n)]
            numbers[source.randrange(n)] += 1
            table = table_of([Fraction(number, sum(numbers)) for number in numbers])
            model.append((table, tuple([source.randrange(states) for _ in range(n)])))
        found.append(tuple(model))
    return found


MODELS = NAMED + tuple(some_models(1, 30))

STATE = (HALVES, (0, 0))
WRONG_MODELS = JUNK + (
    (), 1, 2, (1,), STATE, [STATE], (list(STATE),), ((HALVES, [0, 0]),), ((list(HALVES), (0, 0)),), (STATE, None),
    ((HALVES,),), ((HALVES, (0, 0), 0),), ((HALVES, (0,)),), ((HALVES, (0, 0, 0)),), ((HALVES, ()),), ((HALVES, 0),),
    ((HALVES, (0, 1)),), ((HALVES, (0, -1)),), ((HALVES, (0, False)),), ((HALVES, (True, 0)),) * 2, ((HALVES, None),),
    ((HALVES, (0, "0")),), ((HALVES, (0, (0,))),), ((HALVES, (0, 10 ** 99)),), (STATE, (THIRDS, (0, 0, 0))),
    ((THIRDS, (0, 0, 0)), STATE), (STATE, (SURE, (0,))), (STATE, ()), ((), STATE), ((0, 0), (HALVES, (0, 0))),
    ((((1, 2), (1, 3)), (0, 0)),), ((((2, 4), (1, 2)), (0, 0)),), ((((True, 2), (1, 2)), (0, 0)),), (((), ()),),
    (((0, 0), HALVES),), ((None, (0, 0)),), ({0: HALVES},), {0: STATE}, "((HALVES, (0, 0)),)", ((STATE,),), (STATE, 0),
    ((HALVES, (2, 0)), STATE), ((HALVES, (0.0, 0)),), (STATE, STATE, (HALVES, (0, 3))), ((HALVES, "00"),)) + tuple([
        ((table, (0, 0)),) for table in WRONG_TABLES])

# Values that are no row of outcomes of a model with two of them.
WRONG_ROWS_OF_TWO = [thing for thing in JUNK if thing != ()] + [
    0, 1, [0], [], (2,), (-1,), (0, 2), (True,), (False,), (0, True), (0, 1, False), ("0",), "01", (None,), ((0,),),
    (0, (1,)), ((),), (10 ** 99,), {0: 1}, (0.0,), (0, 1, 0, 2)]


def own_ways(model, k):
    """All ways with k outcomes, as Python sorts them, with the state behind each and its chance."""
    found = [((), 0, Fraction(1))]
    for _ in range(k):
        found = [(way + (i,), model[at][1][i], chance * fraction(one)) for way, at, chance in found
                 for i, one in enumerate(model[at][0]) if one[0] > 0]
    return found


def own_stretches(model, k):
    """The stretch of each way with k outcomes: one beside another from 0 to 1."""
    found = {}
    low = Fraction(0)
    for way, _, chance in own_ways(model, k):
        found[way] = (low, chance)
        low += chance
    return found


def some_way(model, many, seed):
    """A way with so many outcomes, the same for a seed each time."""
    source = random.Random(seed)
    way, at = [], 0
    for _ in range(many):
        way.append(source.choice([i for i, one in enumerate(model[at][0]) if one[0] > 0]))
        at = model[at][1][way[-1]]
    return tuple(way)


def own_stretch(model, way):
    """The stretch of one way, of any length."""
    low, size, at = Fraction(0), Fraction(1), 0
    for i in way:
        chances = told(model[at][0])
        low, size = low + size * sum(chances[:i]), size * chances[i]
        at = model[at][1][i]
    return low, size


def all_rows(model, most):
    """All rows of outcomes with at most so many of them, whether they are ways or not."""
    n = len(model[0][0])
    return [row for k in range(most + 1) for row in product(range(n), repeat=k)]
