"""Part 4: floors, least means, best machines and waste."""

import unittest
from fractions import Fraction
from itertools import product
from math import gcd

from coins import (ANY_BIT, AT_ONCE, AT_ONCE_OF_EIGHT, COIN, DIE_OF_SIX, EIGHTHS, LATE, LOST, MACHINES, NEVER,
                   SAME_FOLLOWERS, SMALL, THIRDS_COIN, TRAP, TURNED, TWICE, TWO_TRAPS, UNREACHED, WAITING, WRONG_BITS,
                   WRONG_MACHINES, chain, followed, is_sure, own_chances, own_digit, own_floor, ring, rows)
from drawnbits.best import best_holds, best_machine, first_waste, floor_at, judge_best, least_mean, waste
from drawnbits.errors import BadMachine, BadNumber, BadTable, Endless
from drawnbits.figures import is_entropy_at_least
from drawnbits.machines import chances_within, drawn_table, ends_hold, is_machine, judge_ends, many_rows, mean, reached
from drawnbits.machines import tail
from support import (EDGE, EIGHT, HALVES, JUNK, LONG, LONG_BOTTOM, SKEW, SURE, TABLES, THIRDS, UNEVEN, WRONG_NUMBERS,
                     WRONG_TABLES, Case, fraction, pair, table_of, told)

SURE_ONES = [machine for machine in MACHINES if is_sure(machine)]
SMALL_SURE_ONES = [machine for machine in SMALL if is_sure(machine)]
ENDLESS = [machine for machine in MACHINES if not is_sure(machine)]


def two_rounds(one, other):
    """A machine whose first bit chooses one of two rounds of tosses; just one toss of each may end at 0.

    So two rows that end at 0 have one length only where both rounds come to their end together.
    """
    outs = 1 + one + other
    first = [("toss", outs if k == 0 else outs + 1, 1 + (k + 1) % one) for k in range(one)]
    second = [("toss", outs if k == other - 1 else outs + 2, 1 + one + (k + 1) % other) for k in range(other)]
    return (3, tuple([("toss", 1, 1 + one)] + first + second + [("out", 0), ("out", 1), ("out", 2)]))


def late_behind(many):
    """A machine whose outcome 1 has the chance 1 / 2 ** many and rows of all lengths above many."""
    tosses = [("toss", many + 1, k + 1) for k in range(many)]
    return (2, tuple(tosses + [("toss", many + 2, many), ("out", 0), ("out", 1)]))


MORE = (two_rounds(3, 4), two_rounds(13, 17), two_rounds(2, 4), late_behind(1), late_behind(50))

# Tables with all kinds of figures: aheads and rounds of 24 digits, rounds whose common length is 24, chances 0 and 1.
FULL = 2 ** 24
ROUND = 2 ** 24 - 1
MOST = FULL * ROUND
LIMITS = [
    SURE, EDGE, HALVES, THIRDS, SKEW, EIGHT, UNEVEN, ((0, 1),) * 7 + ((1, 1),), ((1, FULL), (FULL - 1, FULL)),
    ((1, ROUND), (ROUND - 1, ROUND)), table_of([Fraction(1, MOST), 1 - Fraction(1, MOST)]),
    table_of([Fraction(10 ** 10 + 7, MOST), Fraction(10 ** 13, MOST), 1 - Fraction(10 ** 13 + 10 ** 10 + 7, MOST)]),
    table_of([Fraction(k, MOST) for k in (3, 5 ** 9, 7 ** 8, 11 ** 9, 13 ** 10, 17 ** 10, 2 ** 43)]
             + [1 - Fraction(3 + 5 ** 9 + 7 ** 8 + 11 ** 9 + 13 ** 10 + 17 ** 10 + 2 ** 43, MOST)]),
    table_of([Fraction(1, 7), Fraction(3, 17), 1 - Fraction(1, 7) - Fraction(3, 17)]),
    table_of([Fraction(1, 9), Fraction(2, 13), Fraction(1, 5), 1 - Fraction(1, 9) - Fraction(2, 13) - Fraction(1, 5)]),
    table_of([Fraction(1, 241), Fraction(240, 241)]), table_of([Fraction(1, 3 * FULL), 1 - Fraction(1, 3 * FULL)]),
    table_of([Fraction(0), Fraction(1, 6), Fraction(0), Fraction(1, 2), Fraction(1, 3)])]


def some_tables():
    """All tables of two and of some of three outcomes, with small bottoms."""
    found = []
    for bottom in (2, 3, 4, 5, 6, 7, 8, 9, 12, 14, 15, 24, 56):
        found += [table_of([Fraction(k, bottom), Fraction(bottom - k, bottom)]) for k in range(bottom + 1)]
    for bottom in (4, 5, 6, 7, 12):
        for one, two in product(range(bottom + 1), repeat=2):
            if one + two <= bottom:
                found.append(table_of([Fraction(k, bottom) for k in (one, two, bottom - one - two)]))
    return found


def own_least_mean(numbers):
    """The sum of the floors at all t, the last of which together are below 1 / 2 ** 280."""
    return sum([own_floor(numbers, t) for t in range(300)])


def is_best(machine, most):
    """Whether the tails are the floors at all t up to most."""
    numbers = own_chances(machine)[0][0]
    return all([Fraction(*tail(machine, t)) == own_floor(numbers, t) for t in range(most + 1)])


class Examples(Case):
    """The examples of drawnbits/best.py, as the document has them."""

    def test_all(self):
        self.assert_same(
            [floor_at(((1, 3), (2, 3)), 2), least_mean(((1, 3), (2, 3))), judge_best(THIRDS_COIN), waste(THIRDS_COIN),
             first_waste(THIRDS_COIN), best_holds(LATE, ('late', (1, 0))), waste(LATE), first_waste(LATE),
             best_holds(TWICE, ('twice', (0, 0), (1, 0)))],
            [(1, 4), (2, 1), ('best',), (0, 1), None, True, (1, 1), 1, True])


class Floors(Case):
    """[4.1]: floors and least means."""

    def test_floors(self):
        for table in TABLES + tuple(LIMITS) + tuple(some_tables()):
            for t in (0, 1, 2, 3, 7, 24, 25, 48, 200):
                self.assert_fraction(floor_at(table, t), own_floor(told(table), t))

    def test_edges(self):
        for t in (0, 1, 60, 200, 300):
            self.assert_calls((0, 1), floor_at, table=SURE, t=t)
            self.assert_calls((0, 1), floor_at, table=EDGE, t=t)
            self.assert_calls((1, 1) if t == 0 else (0, 1), floor_at, table=HALVES, t=t)
            self.assert_calls((1, 2 ** t), floor_at, table=((1, 3), (2, 3)), t=t)
            self.assert_calls(pair(own_floor(told(LONG), t)), floor_at, table=LONG, t=t)
        self.assert_calls((1, 2 ** 59), floor_at, table=((1, 2 ** 60), (2 ** 60 - 1, 2 ** 60)), t=59)
        self.assert_calls((0, 1), floor_at, table=((1, 2 ** 60), (2 ** 60 - 1, 2 ** 60)), t=60)
        self.assert_calls((1, 2 ** 96), floor_at, table=((1, LONG_BOTTOM), (LONG_BOTTOM - 1, LONG_BOTTOM)), t=96)

    def test_floors_are_below_all_tails(self):
        for machine in SURE_ONES + SMALL_SURE_ONES[::3]:
            numbers = own_chances(machine)[0][0]
            for t in (0, 1, 2, 5, 20):
                self.assertGreaterEqual(Fraction(*tail(machine, t)), own_floor(numbers, t))

    def test_least_means(self):
        for table in LIMITS + some_tables() + [((1, 997), (996, 997)), ((1, 1000), (999, 1000)), UNEVEN]:
            found = fraction(least_mean(table))
            self.assertLess(abs(found - own_least_mean(told(table))), Fraction(1, 2 ** 250))
            self.assert_calls(pair(found), least_mean, table=table)

    def test_least_means_known(self):
        big = 2 ** 60
        for table, number in ((SURE, 0), (EDGE, 0), (HALVES, 1), (EIGHT, 3), (THIRDS, Fraction(8, 3)),
                              (((1, 3), (2, 3)), 2), (((1, 2), (1, 4), (1, 4)), Fraction(3, 2)),
                              (((1, 6),) * 6, Fraction(11, 3)), (((3, 4), (1, 4)), Fraction(3, 2)),
                              (((1, big), (big - 1, big)), 2 - Fraction(1, 2 ** 59))):
            self.assert_calls(pair(number), least_mean, table=table)

    def test_entropy_and_two_more(self):
        for table in some_tables() + [SKEW, EIGHT, ((1, 1000), (999, 1000))]:
            top, bottom = least_mean(table)
            if bottom <= 30:
                just = Fraction(top, bottom)
                self.assertTrue(is_entropy_at_least(table, pair(just - 2)))
                # The entropy is at most the least mean.
                above = pair(just + Fraction(1, 100))
                self.assertFalse(is_entropy_at_least(table, above))


class Judged(Case):
    """[4.2]: whether machines are best."""

    def check_certificate(self, machine, found):
        """A certificate that a machine is not best is what the document says of it."""
        numbers = own_chances(machine)[0][0]
        if found[0] == "twice":
            word, one, other = found
            self.assertNotEqual(one, other)
            self.assertEqual(len(one), len(other))
            self.assertEqual(followed(machine, one), followed(machine, other))
            self.assertEqual(followed(machine, one)[1], len(one))
            return
        word, bits = found
        self.assertEqual(word, "late")
        i, taken = followed(machine, bits)
        self.assertEqual(taken, len(bits))
        # The digits behind the last place of the ahead are all 0.
        self.assertEqual(numbers[i] * 2 ** (len(bits) - 1) % 1, 0)

    def check_machine(self, machine, most):
        found = judge_best(machine)
        if is_best(machine, most):
            self.assert_same(found, ("best",))
        else:
            self.check_certificate(machine, found)
        self.assertIs(best_holds(machine, found), True)
        self.assertIs(best_holds(machine, ("best",)), found == ("best",))

    def test_small_ones(self):
        for machine in SMALL_SURE_ONES:
            self.check_machine(machine, 12)

    def test_others(self):
        for machine in SURE_ONES:
            self.check_machine(machine, 150)
        for machine in MORE:
            self.check_machine(machine, 240)

    def test_known(self):
        for machine in (THIRDS_COIN, TURNED, AT_ONCE, AT_ONCE_OF_EIGHT, COIN, DIE_OF_SIX, EIGHTHS, UNREACHED, chain(3),
                        chain(10), chain(60), ring(60), two_rounds(2, 4)):
            self.assert_calls(("best",), judge_best, machine=machine)
            self.assert_calls(True, best_holds, machine=machine, thing=("best",))
        for machine, word in ((LATE, "late"), (TWICE, "twice"), (WAITING, "late"), (SAME_FOLLOWERS, "twice"),
                              (late_behind(50), "late"), (two_rounds(13, 17), "twice")):
            self.assertEqual(judge_best(machine)[0], word)
            self.assert_calls(judge_best(machine), judge_best, machine=machine)
            self.assert_calls(True, best_holds, machine=machine, thing=judge_best(machine))
            self.assert_calls(False, best_holds, machine=machine, thing=("best",))

    def test_rows_that_are_alike_late(self):
        for one, other in ((3, 4), (13, 17), (5, 11)):
            machine = two_rounds(one, other)
            word, bits, more = judge_best(machine)
            self.assertEqual(word, "twice")
            lengths = [k for k in range(3, 2 + one * other) if (k - 2) % one == 0 and (k - 1) % other == 0]
            self.assertEqual(lengths, [len(bits)])
            # Two rows of one length are a digit more at the place ahead, or at one further ahead.
            first = [t for t in range(len(bits)) if Fraction(*tail(machine, t)) > Fraction(*floor_at(
                drawn_table(machine), t))][0]
            self.assertGreater(first, min(one, other))
            self.assert_calls(first, first_waste, machine=machine)
        self.assert_calls(("best",), judge_best, machine=two_rounds(4, 6))

    def test_all_short_certificates(self):
        short = [row for k in range(4) for row in rows(k)]
        for machine in SMALL_SURE_ONES[::9] + [LATE, TWICE, WAITING, ANY_BIT, SAME_FOLLOWERS, THIRDS_COIN, UNREACHED]:
            numbers = own_chances(machine)[0][0]
            ends = {row: followed(machine, row)[0] for row in short
                    if followed(machine, row) is not None and followed(machine, row)[1] == len(row)}
            for row in short:
                late = row in ends and len(row) > 0 and numbers[ends[row]] * 2 ** (len(row) - 1) % 1 == 0
                self.assertIs(best_holds(machine, ("late", row)), late)
                for other in short:
                    right = row != other and len(row) == len(other) and row in ends and ends[row] == ends.get(other)
                    self.assertIs(best_holds(machine, ("twice", row, other)), right)

    def test_late_at_the_last_digit(self):
        machine = late_behind(50)
        for k in (50, 51, 52, 400):
            row = (1,) * (k - 1) + (0,)
            self.assert_calls(k > 50, best_holds, machine=machine, thing=("late", row))
        self.assert_calls(True, best_holds, machine=WAITING, thing=("late", (1,)))
        self.assert_calls(False, best_holds, machine=AT_ONCE, thing=("late", ()))
        self.assert_calls(False, best_holds, machine=THIRDS_COIN, thing=("late", (1, 1) * 100 + (0,)))

    def test_things_that_are_no_certificates(self):
        one, other = (0, 0), (1, 0)
        things = JUNK + (
            (), "best", ("best", ()), ["best"], ("Best",), (("best",),), ("best", "best"), ("best", (1,)), "twice",
            ("twice",), ("twice", one), ("twice", one, one), ("twice", one, other, one), ["twice", one, other],
            ("Twice", one, other), (("twice", one, other),), ("twice", (one, other)), ("twice", list(one), other),
            ("twice", one, list(other)), ("twice", (False, 0), other), ("twice", one, (True, 0)), ("twice", 0, 1),
            ("twice", one, (0, 1)), ("twice", (0,), (1,)), ("twice", one, other + (0,)), ("twice", one + (0,), other),
            ("twice", one + (0,), other + (0,)), ("twice", None, other), ("twice", one, None), ("twice", (), ()),
            ("twice", (0,), (1, 0)), ("late",), ("late", one, other), ("late", ()), ("late", 1),
            ("late", None), ("late", (2,)), ("late", "00"), (one, other), ("twice", "00", "10"), (0, one, other),
            ("twice", one, (1, 0, 2)), ("late", ((0, 0),)), (None,), {"best": ()}, ("late", one + (0,)))
        for thing in things:
            with self.subTest(repr(thing)[:80]):
                self.assert_calls(False, best_holds, machine=TWICE, thing=thing)
                if thing != ("best",):
                    self.assert_calls(False, best_holds, machine=THIRDS_COIN, thing=thing)
        for thing in WRONG_BITS:
            self.assert_calls(False, best_holds, machine=WAITING, thing=("late", thing))
            self.assert_calls(False, best_holds, machine=ANY_BIT, thing=("twice", thing, (1,)))
            self.assert_calls(False, best_holds, machine=ANY_BIT, thing=("twice", (1,), thing))
        for thing in (("late", [1]), ("late", (True,)), ["late", (1,)], ("late", (1,), ()), ("late", (1, 0))):
            self.assert_calls(False, best_holds, machine=WAITING, thing=thing)
        self.assert_calls(True, best_holds, machine=ANY_BIT, thing=("twice", (0,), (1,)))
        self.assert_calls(True, best_holds, machine=ANY_BIT, thing=("late", (1,)))
        self.assert_calls(True, best_holds, machine=TWICE, thing=("late", one))

    def test_certificates_of_other_machines(self):
        for one, other in product(SURE_ONES[:16], repeat=2):
            found = judge_best(other)
            if found == ("best",):
                right = judge_best(one) == ("best",)
            else:
                ends = [followed(one, row) for row in found[1:]]
                right = None not in ends and len(set(ends)) == 1 and ends[0][1] == len(found[1])
                if right and found[0] == "late":
                    right = own_chances(one)[0][0][ends[0][0]] * 2 ** (len(found[1]) - 1) % 1 == 0
            self.assertIs(best_holds(one, found), right)


class Wastes(Case):
    """[4.3]: waste, and where it begins."""

    def test_wastes(self):
        for machine in SURE_ONES + SMALL_SURE_ONES[::5]:
            found, number = own_chances(machine)
            bottoms = [chance.denominator for chance in found[0]]
            if max(bottoms) <= 1000 or all([gcd(bottom, 2 ** 60) == bottom for bottom in bottoms]):
                told_waste = fraction(waste(machine))
                self.assertLess(abs(told_waste - number + own_least_mean(found[0])), Fraction(1, 2 ** 250))
                self.assertIs(told_waste == 0, judge_best(machine) == ("best",))
                self.assertGreaterEqual(told_waste, 0)

    def test_first_wastes(self):
        for machine in SURE_ONES + SMALL_SURE_ONES:
            numbers = own_chances(machine)[0][0]
            found = first_waste(machine)
            if judge_best(machine) == ("best",):
                self.assertIsNone(found)
                continue
            for t in range(found):
                self.assertEqual(Fraction(*tail(machine, t)), own_floor(numbers, t))
            self.assertGreater(Fraction(*tail(machine, found)), own_floor(numbers, found))

    def test_known(self):
        for machine, number, first in (
                (THIRDS_COIN, 0, None), (LATE, 1, 1), (TWICE, 1, 1), (AT_ONCE, 0, None), (WAITING, 2, 0),
                (ANY_BIT, 1, 0), (SAME_FOLLOWERS, 2, 1), (chain(60), 0, None), (EIGHTHS, 0, None),
                (late_behind(50), Fraction(1, 2 ** 49), 50), (late_behind(1), 1, 1), (DIE_OF_SIX, 0, None)):
            self.assert_calls(pair(number), waste, machine=machine)
            self.assert_calls(first, first_waste, machine=machine)


class Built(Case):
    """[4.2]: best machines that are built for tables."""

    def check_table(self, table, most):
        machine = best_machine(table)
        self.assertIs(is_machine(machine), True)
        self.assertEqual(machine[0], len(table))
        self.assert_same(drawn_table(machine), table)
        numbers = told(table)
        for k in range(1, most + 1):
            for i in range(len(table)):
                self.assertEqual(many_rows(machine, i, k), own_digit(numbers[i], k))
        self.assert_same([many_rows(machine, i, 0) for i in range(len(table))], [int(n == 1) for n in numbers])
        self.assert_same(judge_best(machine), ("best",))
        return machine

    def test_many_tables(self):
        for table in some_tables():
            machine = self.check_table(table, 16)
            self.assert_same(mean(machine), least_mean(table))
            self.assert_same(waste(machine), (0, 1))

    def test_tables_at_the_limits(self):
        for table in LIMITS:
            machine = self.check_table(table, 80)
            self.assert_calls(machine, best_machine, table=table)
            self.assert_same(mean(machine), least_mean(table))
            self.assert_same(waste(machine), (0, 1))
            self.assertIsNone(first_waste(machine))
            for t in (0, 1, 23, 24, 25, 47, 48, 49, 72, 199, 200):
                self.assert_same(tail(machine, t), floor_at(table, t))
                self.assertLessEqual(sum([Fraction(*chance) for chance in chances_within(machine, t)]), 1)
            self.assertIs(ends_hold(machine, judge_ends(machine)), True)
            self.assert_same(reached(machine), tuple(range(len(machine[1]))))

    def test_certain_outcomes(self):
        self.assert_calls((1, (("out", 0),)), best_machine, table=SURE)
        self.assert_calls((2, (("out", 1),)), best_machine, table=EDGE)
        self.assert_calls((8, (("out", 7),)), best_machine, table=((0, 1),) * 7 + ((1, 1),))

    def test_somewhat_beyond_the_limits(self):
        for table in (((1, 97), (96, 97)), ((1, 2 ** 40), (2 ** 40 - 1, 2 ** 40)), ((1, 1000), (999, 1000))):
            machine = self.check_table(table, 120)
            self.assert_same(mean(machine), least_mean(table))


class Errors(Case):
    """[0.2], "The interface": which errors are raised, in the order of the parameters."""

    def test_wrong_machines(self):
        for wrong in WRONG_MACHINES:
            with self.subTest(repr(wrong)[:80]):
                for call in (judge_best, waste, first_waste):
                    self.assert_bad(BadMachine, wrong, call, wrong)
                    self.assert_bad(BadMachine, wrong, call, machine=wrong)
                for thing in (("best",), None, ("late", (1,))):
                    self.assert_bad(BadMachine, wrong, best_holds, wrong, thing)
                    self.assert_bad(BadMachine, wrong, best_holds, machine=wrong, thing=thing)

    def test_endless(self):
        for machine in ENDLESS + [NEVER, LOST, TRAP, TWO_TRAPS]:
            for call, more in ((judge_best, ()), (waste, ()), (first_waste, ()), (best_holds, (("best",),)),
                               (best_holds, (None,))):
                with self.assertRaises(Endless) as caught:
                    call(machine, *more)
                certificate = caught.exception.certificate
                self.assertEqual(certificate[0], "closed")
                self.assertIs(ends_hold(machine, certificate), True)
                self.assert_raised(Endless, {"certificate": certificate}, call, machine, *more)

    def test_wrong_tables_come_first(self):
        for wrong in WRONG_TABLES:
            with self.subTest(repr(wrong)[:80]):
                for call in (least_mean, best_machine):
                    self.assert_bad(BadTable, wrong, call, wrong)
                    self.assert_bad(BadTable, wrong, call, table=wrong)
                for t in (3, -1, None):
                    self.assert_bad(BadTable, wrong, floor_at, wrong, t)
                    self.assert_bad(BadTable, wrong, floor_at, t=t, table=wrong)

    def test_wrong_numbers(self):
        for wrong in WRONG_NUMBERS:
            with self.subTest(repr(wrong)[:80]):
                for table in (SURE, THIRDS):
                    self.assert_bad(BadNumber, wrong, floor_at, table, wrong)
                    self.assert_bad(BadNumber, wrong, floor_at, table=table, t=wrong)

    def test_what_is_passed_stays_as_it_was(self):
        for thing in (["best"], ("twice", [0, 0], [1, 0]), ("late", [1, 0]), {"best": [1]}):
            self.assert_calls(False, best_holds, machine=TWICE, thing=thing)


if __name__ == "__main__":
    unittest.main()
