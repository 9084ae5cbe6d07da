"""Part 7: plain and best costs of closed programs, and the machines that are made for them."""

import random
import unittest
from fractions import Fraction

from coins import (ANY_BIT, AT_ONCE, AT_ONCE_OF_EIGHT, LATE, LOST, MACHINES, NEVER, THIRDS_COIN, TURNED, TWICE,
                   WRONG_MACHINES, chain, is_sure, own_chances, own_digit, own_floor)
from drawnbits.best import best_machine, floor_at, least_mean, waste
from drawnbits.compiling import (best_cost, cost_holds, is_plain_machine, judge_cost, length_chance, made_tail,
                                 plain_cost, plain_machine)
from drawnbits.errors import BadNumber, BadOutcome, BadProgram
from drawnbits.machines import is_machine, mean, tail
from draws import ALL_CLOSED, ALL_OPEN, COIN, DIE, LEFT, ONE, WRONG_PROGRAMS, nested, own_meaning, own_size, parts
from support import EDGE, EIGHT, JUNK, SURE, THIRDS, UNEVEN, WRONG_NUMBERS, Case, fraction, pair, table_of

CALLS = (plain_cost, best_cost, plain_machine, judge_cost)
DRAW = ("draw", LEFT)
ZERO = ("value", 2, 0)
TWO_COINS = ("bind", COIN, (COIN, COIN))
DIE_OF_SIX = ("again", ("bind", COIN, tuple([("bind", COIN, tuple([
    ("map", COIN, (4 * a + 2 * b, 4 * a + 2 * b + 1), 8) for b in (0, 1)])) for a in (0, 1)])), (0, 1, 2, 3, 4, 5))
# The lot surely comes; it comes with a small chance; it surely comes where an outcome outside of it never does.
SURELY = ("again", TWO_COINS, (0, 1))
SELDOM = ("again", ("draw", ((1, 1000), (999, 1000))), (0,))
SELDOM_OF_TWO = ("again", ("draw", ((1, 512), (1, 512), (255, 256))), (0, 1))
OUTSIDE_NEVER = ("again", ("draw", EDGE), (1,))
# The outcome 0 of the first draw never comes: its case is not done, though it is long.
NEVER_COMES = ("bind", ("draw", EDGE), (DIE_OF_SIX, ("value", 8, 3)))
VALUES = ("bind", ZERO, (("map", ONE, (1, 0), 2), ("again", ONE, (1,))))
# Needs more than the least number of bits only from the third bit on.
LATER = ("bind", ("draw", ((3, 4), (1, 8), (1, 8))), (ZERO, COIN, COIN))
AGAIN_AND_AGAIN = ("again", ("bind", ("again", ("draw", THIRDS), (0, 1)), (COIN, ("again", DRAW, (0, 1)), ONE)), (1,))
BACK_AT_ONCE = ("again", ("bind", COIN, (ZERO, ("again", ONE, (1,)))), (1,))
# Long rows of tosses, and more than one beside another: the made machine has almost 200 standings.
FULL = 2 ** 24


def long_table(seed):
    """A table of eight whole numbers of 2 ** 24-th parts."""
    source = random.Random(seed)
    borders = [0] + sorted([source.randrange(FULL) for _ in range(7)]) + [FULL]
    return table_of([Fraction(high - low, FULL) for low, high in zip(borders, borders[1:])])


TWO_HUNDRED = ("bind", ("draw", ((1, 4),) * 4), tuple([("draw", long_table(seed)) for seed in range(4)]))
KNOWN = [COIN, DIE, DRAW, ONE, VALUES, TWO_COINS, DIE_OF_SIX, SURELY, SELDOM_OF_TWO, OUTSIDE_NEVER, NEVER_COMES, LATER,
         AGAIN_AND_AGAIN, BACK_AT_ONCE, ("value", 1, 0), ("draw", SURE), ("draw", UNEVEN), ("draw", EIGHT),
         nested(7, COIN, "map"), nested(7, COIN, "again"), nested(7, COIN, "bind"), nested(7, DRAW, "case"),
         ("bind", DRAW, (DRAW, DRAW)), ("bind", DRAW, (DRAW, ("map", DRAW, (1, 0), 2)))]


def is_within_limits(program):
    draws = [part[1] for part, _ in parts(program) if part[0] == "draw"]
    bottoms = [bottom for table in draws for _, bottom in table]
    whole = [chance.denominator for chance in own_meaning(program, {})]
    return max(bottoms + [1]) <= 60 and max(whole) <= 1000


PROGRAMS = KNOWN + [program for program in ALL_CLOSED if is_within_limits(program)][::2]


def own_lengths(program, most):
    """For each outcome the chances of the lengths from 0 to most, as [7.4] tells them."""
    n = own_size(program)
    found = [[Fraction(0)] * (most + 1) for _ in range(n)]
    if program[0] == "value":
        found[program[2]][0] += 1
    if program[0] == "draw":
        for i, chance in enumerate(program[1]):
            for s in range(most + 1):
                digit = fraction(chance) // 1 if s == 0 else own_digit(fraction(chance), s)
                found[i][s] += Fraction(int(digit), 2 ** s)
    if program[0] == "bind":
        inner, cases = own_lengths(program[1], most), [own_lengths(part, most) for part in program[2]]
        for one, case in zip(inner, cases):
            for v in range(n):
                found[v] = [a + b for a, b in zip(found[v], one_behind_another(one, case[v]))]
    if program[0] == "again":
        inner = own_lengths(program[1], most)
        missed = [sum([inner[v][s] for v in range(n) if v not in program[2]]) for s in range(most + 1)]
        for s in range(most + 1):
            for v in program[2]:
                found[v][s] = inner[v][s] + sum([missed[u] * found[v][s - u] for u in range(1, s + 1)])
    if program[0] == "map":
        for i, one in enumerate(own_lengths(program[1], most)):
            v = program[2][i]
            found[v] = [a + b for a, b in zip(found[v], one)]
    return found


def one_behind_another(one, other):
    used = [(s, chance) for s, chance in enumerate(one) if chance > 0]
    return [sum([chance * other[t - s] for s, chance in used if s <= t]) for t in range(len(one))]


def own_cost(program):
    """The mean number of bits, a run of the program being followed draw by draw."""
    if program[0] == "draw":
        return own_chances(best_machine(program[1]))[1]
    if program[0] == "value":
        return Fraction(0)
    found = own_cost(program[1])
    if program[0] == "bind":
        for chance, part in zip(own_meaning(program[1], {}), program[2]):
            found += chance * own_cost(part)
    if program[0] == "again":
        # So many times in the mean: 1, and those behind a miss.
        found /= sum([own_meaning(program[1], {})[v] for v in program[2]])
    return found


class Examples(Case):
    """The examples of drawnbits/compiling.py, as the document has them."""

    def test_first(self):
        self.assert_same(
            [plain_cost(COIN), plain_cost(DIE), best_cost(DIE), judge_cost(COIN), judge_cost(DIE),
             plain_cost(('bind', COIN, (COIN, COIN))), best_cost(('bind', COIN, (COIN, COIN)))],
            [(1, 1), (8, 3), (8, 3), ('best',), ('best',), (2, 1), (1, 1)])

    def test_second(self):
        self.assert_same(
            [length_chance(DIE, 0, 2), length_chance(DIE, 0, 3), length_chance(DIE, 1, 4), made_tail(DIE, 2),
             cost_holds(('bind', COIN, (COIN, COIN)), ('more', 1)),
             is_plain_machine(COIN, (2, (('toss', 1, 2), ('out', 1), ('out', 0))))],
            [(1, 4), (0, 1), (1, 16), (1, 4), True, True])


class Costs(Case):
    """[7.1] and [7.3]: plain and best costs."""

    def test_plain_costs(self):
        for program in PROGRAMS:
            self.assert_calls(pair(own_cost(program)), plain_cost, program=program)

    def test_best_costs(self):
        for program in PROGRAMS:
            table = table_of(own_meaning(program, {}))
            self.assert_calls(least_mean(table), best_cost, program=program)
            self.assertLessEqual(fraction(best_cost(program)), fraction(plain_cost(program)))

    def test_known(self):
        for program, plain, best in (
                (ONE, 0, 0), (VALUES, 0, 0), (("value", 8, 7), 0, 0), (("draw", SURE), 0, 0), (COIN, 1, 1),
                (DRAW, 2, 2), (("draw", EIGHT), 3, 3), (DIE_OF_SIX, 4, Fraction(11, 3)), (SURELY, 2, 1),
                (OUTSIDE_NEVER, 0, 0), (NEVER_COMES, 0, 0), (SELDOM, fraction(least_mean(SELDOM[1][1])) * 1000, 0),
                (SELDOM_OF_TWO, own_cost(SELDOM_OF_TWO), 1),
                (BACK_AT_ONCE, 2, 0), (nested(7, COIN, "again"), 1, 1), (nested(7, COIN, "case"), 2 - Fraction(1, 128),
                                                                         2 - Fraction(1, 128)),
                (("bind", DRAW, (ZERO, DRAW)), 2 + Fraction(4, 3), fraction(least_mean(((5, 9), (4, 9)))))):
            with self.subTest(repr(program)[:60]):
                self.assert_calls(pair(plain), plain_cost, program=program)
                self.assert_calls(pair(best), best_cost, program=program)

    def test_again_of_a_small_chance(self):
        for bottom in (2, 10, 100, 999, 1000):
            table = ((1, bottom), (bottom - 1, bottom))
            wanted = fraction(least_mean(table)) * bottom
            self.assert_calls(pair(wanted), plain_cost, program=("again", ("draw", table), (0,)))
            self.assert_calls((0, 1), best_cost, program=("again", ("draw", table), (0,)))


class Machines(Case):
    """[7.2]: plain machines."""

    def check_machine(self, program):
        machine = plain_machine(program)
        self.assertIs(is_machine(machine), True)
        self.assertEqual(machine[0], own_size(program))
        self.assertTrue(is_sure(machine))
        found, number = own_chances(machine)
        self.assertEqual(found[0], own_meaning(program, {}))
        self.assertEqual(number, own_cost(program))
        return machine

    def test_made(self):
        for program in PROGRAMS:
            machine = self.check_machine(program)
            self.assert_calls(machine, plain_machine, program=program)
            self.assert_calls(True, is_plain_machine, program=program, thing=machine)
            self.assertLessEqual(len(machine[1]), 60)

    def test_two_hundred_standings(self):
        machine = plain_machine(TWO_HUNDRED)
        self.assertIn(len(machine[1]), range(180, 201))
        self.check_machine(TWO_HUNDRED)
        self.assert_calls(True, is_plain_machine, program=TWO_HUNDRED, thing=machine)

    def test_values_only(self):
        for program, machine in ((ONE, (2, (("out", 1),))), (VALUES, (2, (("out", 0),))), (NEVER_COMES, (
                8, (("out", 3),))), (("value", 1, 0), AT_ONCE), (("value", 8, 5), AT_ONCE_OF_EIGHT)):
            self.assert_calls(machine, plain_machine, program=program)
            self.assert_calls(True, is_plain_machine, program=program, thing=machine)

    def test_all_machines(self):
        for program in (COIN, DRAW, TWO_COINS, ONE, ("value", 1, 0), ("bind", DRAW, (DRAW, DRAW)), LATER):
            for machine in MACHINES:
                right = is_sure(machine)
                if right:
                    found, number = own_chances(machine)
                    right = found[0] == own_meaning(program, {}) and number == own_cost(program)
                self.assertIs(is_plain_machine(program, machine), right)

    def test_known(self):
        for program, machine, right in (
                (COIN, TWICE, False), (TWO_COINS, TWICE, True), (TWO_COINS, LATE, True), (COIN, LATE, False),
                (TWO_COINS, (2, (("toss", 1, 2), ("out", 0), ("out", 1))), False), (DRAW, THIRDS_COIN, True),
                (DRAW, TURNED, True), (("map", DRAW, (1, 0), 2), THIRDS_COIN, False), (("value", 1, 0), ANY_BIT, False),
                (("value", 1, 0), AT_ONCE, True), (("value", 1, 0), NEVER, False), (("value", 1, 0), LOST, False),
                (("value", 2, 0), AT_ONCE, False), (nested(7, COIN, "bind"), chain(3), True), (BACK_AT_ONCE, (
                    2, (("toss", 0, 1), ("out", 1))), True)):
            self.assert_calls(right, is_plain_machine, program=program, thing=machine)

    def test_wrong_values(self):
        for thing in WRONG_MACHINES:
            for program in (COIN, ("value", 1, 0)):
                self.assert_calls(False, is_plain_machine, program=program, thing=thing)


class Lengths(Case):
    """[7.4]: how many bits a program takes that is made part by part."""

    def check_lengths(self, program, most):
        lengths = own_lengths(program, most)
        left = Fraction(1)
        for t in range(most + 1):
            for i in range(own_size(program)):
                self.assert_fraction(length_chance(program, i, t), lengths[i][t])
                left -= lengths[i][t]
            self.assert_fraction(made_tail(program, t), left)

    def test_lengths(self):
        for program in KNOWN:
            self.check_lengths(program, 24)
        for program in PROGRAMS[len(KNOWN)::2]:
            self.check_lengths(program, 9)

    def test_long_ones(self):
        for program in (DIE, DIE_OF_SIX, AGAIN_AND_AGAIN, LATER, SELDOM_OF_TWO, TWO_HUNDRED):
            lengths = own_lengths(program, 400)
            for t in (0, 1, 2, 3, 25, 26, 27, 48, 49, 50, 199, 200, 398, 399, 400):
                for i in range(own_size(program)):
                    self.assert_calls(pair(lengths[i][t]), length_chance, program=program, outcome=i, t=t)
                left = 1 - sum([chance for row in lengths for chance in row[:t + 1]])
                self.assert_calls(pair(left), made_tail, program=program, t=t)

    def test_edges(self):
        for t in (0, 1, 2, 400):
            self.assert_calls((1, 1) if t == 0 else (0, 1), length_chance, program=ONE, outcome=1, t=t)
            self.assert_calls((0, 1), length_chance, program=ONE, outcome=0, t=t)
            self.assert_calls((0, 1), made_tail, program=VALUES, t=t)
            self.assert_calls((1, 1) if t == 0 else (0, 1), length_chance, program=("draw", EDGE), outcome=1, t=t)
            self.assert_calls((1, 2) if t == 1 else (0, 1), length_chance, program=COIN, outcome=0, t=t)
            self.assert_calls((1, 2 ** t), made_tail, program=DRAW, t=t)
            self.assert_calls((1, 1) if t < 2 else (0, 1), made_tail, program=TWO_COINS, t=t)
            self.assert_calls((1, 2 ** t) if t > 0 else (0, 1), length_chance, program=BACK_AT_ONCE, outcome=1, t=t)

    def test_of_the_made_machine(self):
        for program in PROGRAMS[::3]:
            for t in (0, 1, 5, 17, 60):
                self.assert_same(made_tail(program, t), tail(plain_machine(program), t))


class Judged(Case):
    """[7.3]: whether the plain cost is the best one."""

    def test_all(self):
        for program in PROGRAMS:
            found = judge_cost(program)
            self.assert_calls(True, cost_holds, program=program, thing=found)
            is_best = own_cost(program) == fraction(least_mean(table_of(own_meaning(program, {}))))
            self.assertIs(found == ("best",), is_best)
            self.assert_calls(is_best, cost_holds, program=program, thing=("best",))
            self.assert_fraction(waste(plain_machine(program)), own_cost(program) - fraction(best_cost(program)))
            if not is_best:
                word, t = found
                self.assertEqual(word, "more")
                self.assertGreater(Fraction(*made_tail(program, t)), own_floor(own_meaning(program, {}), t))

    def test_all_numbers(self):
        for program in KNOWN:
            lengths = own_lengths(program, 40)
            numbers = own_meaning(program, {})
            left = Fraction(1)
            for t in range(41):
                left -= sum([row[t] for row in lengths])
                self.assertIs(cost_holds(program, ("more", t)), left > own_floor(numbers, t))

    def test_known(self):
        for program, found in ((ONE, ("best",)), (COIN, ("best",)), (DIE, ("best",)), (LATER, ("more", 3)),
                               (TWO_COINS, ("more", 1)), (SURELY, ("more", 1)), (NEVER_COMES, ("best",))):
            self.assert_calls(found == ("best",), cost_holds, program=program, thing=("best",))
            self.assert_calls(True, cost_holds, program=program, thing=found)
            self.assertEqual(judge_cost(program)[0], found[0])
            self.assert_calls(judge_cost(program), judge_cost, program=program)
        for t, right in ((0, False), (1, True), (2, False), (3, False), (400, False)):
            self.assert_calls(right, cost_holds, program=TWO_COINS, thing=("more", t))
        for t in (1, 9, 400, 10 ** 99):
            self.assert_calls(False, cost_holds, program=DIE, thing=("more", t))
            self.assert_calls(t > 0, cost_holds, program=BACK_AT_ONCE, thing=("more", t))

    def test_long_numbers(self):
        for program in (DIE_OF_SIX, AGAIN_AND_AGAIN, TWO_HUNDRED, SELDOM_OF_TWO, LATER):
            numbers = own_meaning(program, {})
            for t in (23, 24, 25, 46, 47, 48, 100, 399, 400):
                right = fraction(made_tail(program, t)) > own_floor(numbers, t)
                self.assert_calls(right, cost_holds, program=program, thing=("more", t))
                self.assertGreaterEqual(fraction(made_tail(program, t)), own_floor(numbers, t))
                self.assert_fraction(floor_at(table_of(numbers), t), own_floor(numbers, t))

    def test_numbers_far_beyond_the_limit(self):
        # The plain machine of six out of eight goes on with 6, 4, 0 (or 6, 4, 4, ..) of its rows, again and again.
        self.assertIs(cost_holds(DIE_OF_SIX, ("more", 10 ** 99)),
                      fraction(made_tail(DIE_OF_SIX, 10 ** 2)) > own_floor(own_meaning(DIE_OF_SIX, {}), 10 ** 2))
        for t in range(60, 72):
            same = cost_holds(DIE_OF_SIX, ("more", t + 6 * 10 ** 90))
            self.assertIs(cost_holds(DIE_OF_SIX, ("more", t)), same)

    def test_things_that_are_no_certificates(self):
        things = JUNK + (
            (), "best", ["best"], ("Best",), ("best", ()), ("best", 1), (("best",),), ("best", "best"), "more",
            ("more",), ["more", 1], ("More", 1), ("more", 1, 1), ("more", 1, ()), (("more", 1),), ("more", True),
            ("more", "1"), ("more", (1,)), ("more", [1]), ("more", -1), ("more", None), ("more", 1.0), (1, "more"),
            (1,), {"more": 1}, ("more", ()), ("best", "more"), ("more", ("best",)), (0, 1), (None, 1), (True, 1))
        for thing in things:
            with self.subTest(repr(thing)[:80]):
                self.assert_calls(False, cost_holds, program=TWO_COINS, thing=thing)
                self.assert_calls(False, cost_holds, program=DIE, thing=thing)
        for thing in WRONG_NUMBERS:
            self.assert_calls(False, cost_holds, program=TWO_COINS, thing=("more", thing))


class Errors(Case):
    """[0.2], "The interface": which errors are raised, in the order of the parameters."""

    def check_all(self, wrong):
        for call in CALLS:
            self.assert_bad(BadProgram, wrong, call, wrong)
            self.assert_bad(BadProgram, wrong, call, program=wrong)
        for more in (("best",), None, (2, (("toss", 1, 2), ("out", 0), ("out", 1)))):
            self.assert_bad(BadProgram, wrong, cost_holds, wrong, more)
            self.assert_bad(BadProgram, wrong, is_plain_machine, thing=more, program=wrong)
        for outcome, t in ((0, 1), (None, None), (9, -1)):
            self.assert_bad(BadProgram, wrong, length_chance, wrong, outcome, t)
            self.assert_bad(BadProgram, wrong, length_chance, t=t, outcome=outcome, program=wrong)
            self.assert_bad(BadProgram, wrong, made_tail, wrong, t)
            self.assert_bad(BadProgram, wrong, made_tail, t=t, program=wrong)

    def test_wrong_programs(self):
        for wrong in WRONG_PROGRAMS:
            with self.subTest(repr(wrong)[:80]):
                self.check_all(wrong)

    def test_programs_that_are_not_closed(self):
        for wrong in ALL_OPEN[:40]:
            with self.subTest(repr(wrong)[:80]):
                self.check_all(wrong)

    def test_wrong_outcomes(self):
        for wrong in JUNK + (2, 3, 8, -1, (0,), [0], "0", 10 ** 99, 0.0, (), None, True, False):
            for t in (0, 3, -1, None, True):
                self.assert_bad(BadOutcome, wrong, length_chance, COIN, wrong, t)
                self.assert_bad(BadOutcome, wrong, length_chance, t=t, outcome=wrong, program=COIN)

    def test_wrong_numbers(self):
        for wrong in WRONG_NUMBERS:
            for program in (ONE, DIE):
                self.assert_bad(BadNumber, wrong, length_chance, program, 1, wrong)
                self.assert_bad(BadNumber, wrong, length_chance, program=program, outcome=0, t=wrong)
                self.assert_bad(BadNumber, wrong, made_tail, program, wrong)
                self.assert_bad(BadNumber, wrong, made_tail, program=program, t=wrong)

    def test_what_is_passed_stays_as_it_was(self):
        for thing in (["best"], ["more", 1], ("more", [1]), {"more": [1]}):
            self.assert_calls(False, cost_holds, program=TWO_COINS, thing=thing)
        for thing in ([2, [["toss", 1, 2]]], (2, [("toss", 1, 2), ("out", 0), ("out", 1)])):
            self.assert_calls(False, is_plain_machine, program=COIN, thing=thing)

    def test_means_of_plain_machines(self):
        for program in PROGRAMS[::5]:
            self.assert_same(mean(plain_machine(program)), plain_cost(program))


if __name__ == "__main__":
    unittest.main()
