"""Part 9: tables that can be drawn with few bits, and the nearest ones."""

import unittest
from fractions import Fraction
from itertools import product

from drawnbits.errors import BadFraction, BadNumber, BadTable, OtherSize
from drawnbits.few import can_be_drawn, judge_nearest, least_bits, nearest, nearest_holds
from drawnbits.tables import distance, is_table
from support import (BELOW_ZERO, EDGE, EIGHT, HALVES, JUNK, SKEW, SURE, THIRDS, UNEVEN, WRONG_FRACTIONS, WRONG_NUMBERS,
                     WRONG_TABLES, Case, fraction, pair, table_of, told)

THIRD = ((1, 3), (2, 3))
QUARTER = ((1, 4), (3, 4))
FULL = 2 ** 30
FINE = ((1, FULL), (FULL - 1, FULL))
SEVENTHS = ((1, 7), (2, 7), (4, 7))
# Rests that are equal behind some digits: several nearest tables.
EVEN_RESTS = (THIRDS, ((1, 6),) * 6, ((1, 8), (1, 8), (3, 4)), ((1, 5),) * 5, ((1, 4),) * 4, EIGHT)
LONG_ONES = (((1, 1000), (999, 1000)), ((1, 997), (0, 1), (499, 997), (497, 997)), FINE, ((123456789, FULL), (
    FULL - 123456789, FULL)), UNEVEN, SKEW)
TABLES = (SURE, HALVES, EDGE, THIRD, QUARTER, SEVENTHS, SKEW) + EVEN_RESTS


def all_drawable(many, t):
    """All tables of so many outcomes in 2 ** t-th parts."""
    whole = 2 ** t
    return [table_of([Fraction(k, whole) for k in numbers + (whole - sum(numbers),)])
            for numbers in product(range(whole + 1), repeat=many - 1) if sum(numbers) <= whole]


def own_distance(table, other):
    return sum([abs(a - b) for a, b in zip(told(table), told(other))]) / 2


def own_least(table, t):
    """The least distance: the rests that are rounded down less those that are rounded up, by all ways to choose."""
    rests = [number * 2 ** t % 1 for number in told(table)]
    many = int(sum(rests))
    up = sorted(rests, reverse=True)[:many]
    return sum([1 - rest for rest in up], Fraction(0)) / 2 ** t


class Examples(Case):
    """The examples of drawnbits/few.py, as the document has them."""

    def test_all(self):
        self.assert_same(
            [nearest(THIRD, 2), nearest(THIRD, 1), can_be_drawn(((1, 4), (3, 4)), 2), can_be_drawn(THIRD, 30),
             judge_nearest(THIRD, 2, ((1, 4), (3, 4))),
             nearest_holds(THIRD, 2, ((1, 2), (1, 2)), ('nearer', ((1, 4), (3, 4)))), least_bits(THIRD, (1, 12)),
             least_bits(THIRD, (0, 1))],
            [((1, 4), (3, 4)), ((1, 2), (1, 2)), True, False, ('nearest',), True, 2, None])


class Nearest(Case):
    """[9.1]: which tables can be drawn with t bits, and which of them are nearest."""

    def test_which_can_be_drawn(self):
        for t in range(5):
            for table in all_drawable(3, t):
                for k in range(7):
                    parts = [number * 2 ** k for number in told(table)]
                    self.assertIs(can_be_drawn(table, k), all([part.denominator == 1 for part in parts]))

    def test_which_can_be_drawn_at_the_edges(self):
        for table, t, right in ((SURE, 0, True), (EDGE, 0, True), (HALVES, 0, False), (HALVES, 1, True),
                                (FINE, 29, False), (FINE, 30, True), (FINE, 31, True), (THIRD, 0, False),
                                (THIRD, 30, False), (EIGHT, 2, False), (EIGHT, 3, True), (SKEW, 30, False),
                                (HALVES, 10 ** 99, True), (THIRD, 10 ** 99, False)):
            self.assert_calls(right, can_be_drawn, table=table, t=t)

    def test_all_tables_with_few_bits(self):
        for table in TABLES:
            for t in range(5 if len(table) < 4 else 3 if len(table) < 6 else 2):
                found = nearest(table, t)
                self.assert_calls(found, nearest, table=table, t=t)
                others = all_drawable(len(table), t)
                self.assertIn(found, others)
                self.assertEqual(own_distance(table, found), min([own_distance(table, other) for other in others]))
                amounts = [max([abs(a - b) for a, b in zip(told(table), told(other))]) for other in others]
                self.assertEqual(max([abs(a - b) for a, b in zip(told(table), told(found))]), min(amounts))

    def test_long_ones(self):
        for table in LONG_ONES + TABLES:
            for t in (0, 1, 2, 9, 10, 29, 30, 31):
                found = nearest(table, t)
                self.assert_calls(found, nearest, table=table, t=t)
                self.assertIs(is_table(found), True)
                self.assertIs(can_be_drawn(found, t), True)
                self.assertEqual(fraction(distance(table, found)), own_least(table, t))
                for number, other in zip(told(table), told(found)):
                    self.assertIn(other * 2 ** t - number * 2 ** t // 1, (0, 1))

    def test_known(self):
        for table, t, found in ((THIRD, 0, EDGE), (HALVES, 1, HALVES), (HALVES, 30, HALVES), (FINE, 30, FINE),
                                (SEVENTHS, 1, ((0, 1), (1, 2), (1, 2))), (FINE, 28, EDGE),
                                (SEVENTHS, 2, ((1, 4), (1, 4), (1, 2))), (((1, 1000), (999, 1000)), 5, EDGE),
                                (SURE, 0, SURE),
                                (HALVES, 10 ** 99, HALVES), (SKEW, 2, ((1, 4), (0, 1), (1, 2), (1, 4)))):
            self.assert_calls(found, nearest, table=table, t=t)

    def test_several_nearest(self):
        # Each outcome of thirds may get the part that lacks, and each is told to be nearest.
        for t in range(1, 8):
            down, up = Fraction(2 ** t // 3, 2 ** t), Fraction(2 ** t // 3 + 1, 2 ** t)
            lacking = 2 ** t % 3
            for chosen in product((0, 1), repeat=3):
                table = [up if k else down for k in chosen]
                if sum(chosen) == lacking:
                    self.assert_calls(("nearest",), judge_nearest, table=THIRDS, t=t, other=table_of(table))
                    self.assert_calls(True, nearest_holds, table=THIRDS, t=t, other=table_of(table),
                                      thing=("nearest",))


class Judged(Case):
    """[9.2]: certificates."""

    def test_all_tables_with_few_bits(self):
        for table in TABLES:
            for t in range(4 if len(table) < 4 else 2):
                others = all_drawable(len(table), t)
                least = min([own_distance(table, other) for other in others])
                for other in others[:60]:
                    found = judge_nearest(table, t, other)
                    is_nearest = own_distance(table, other) == least
                    self.assertIs(found == ("nearest",), is_nearest)
                    self.assert_calls(True, nearest_holds, table=table, t=t, other=other, thing=found)
                    self.assertIs(nearest_holds(table, t, other, ("nearest",)), is_nearest)
                    for thing in others[:40]:
                        right = own_distance(table, thing) < own_distance(table, other)
                        self.assertIs(nearest_holds(table, t, other, ("nearer", thing)), right)

    def test_at_thirty(self):
        for table in LONG_ONES:
            found = nearest(table, 30)
            self.assert_calls(("nearest",), judge_nearest, table=table, t=30, other=found)
            worse = ((1, 1),) + ((0, 1),) * (len(table) - 1)
            self.assertEqual(judge_nearest(table, 30, worse)[0], "nearer")
            self.assert_calls(judge_nearest(table, 30, worse), judge_nearest, table=table, t=30, other=worse)
            self.assert_calls(True, nearest_holds, table=table, t=30, other=worse, thing=("nearer", found))
            self.assert_calls(False, nearest_holds, table=table, t=30, other=found, thing=("nearer", worse))
            self.assert_calls(False, nearest_holds, table=table, t=30, other=found, thing=("nearer", found))

    def test_nearer_ones_must_be_drawn_with_as_many_bits(self):
        self.assert_calls(False, nearest_holds, table=THIRD, t=1, other=HALVES, thing=("nearer", QUARTER))
        self.assert_calls(True, nearest_holds, table=THIRD, t=2, other=HALVES, thing=("nearer", QUARTER))
        self.assert_calls(False, nearest_holds, table=THIRD, t=2, other=HALVES, thing=("nearer", THIRD))
        self.assert_calls(False, nearest_holds, table=THIRD, t=2, other=HALVES, thing=("nearer", ((3, 8), (5, 8))))
        self.assert_calls(False, nearest_holds, table=THIRD, t=2, other=HALVES, thing=("nearer", SURE))
        self.assert_calls(False, nearest_holds, table=THIRD, t=2, other=HALVES, thing=("nearer", QUARTER + ((0, 1),)))

    def test_things_that_are_no_certificates(self):
        things = JUNK + (
            (), "nearest", ["nearest"], ("Nearest",), ("nearest", ()), ("nearest", QUARTER), (("nearest",),), "nearer",
            ("nearer",), ["nearer", QUARTER], ("Nearer", QUARTER), ("nearer", QUARTER, ()), (("nearer", QUARTER),),
            ("nearer", list(QUARTER)), ("nearer", ([1, 4], (3, 4))), ("nearer", ((2, 8), (3, 4))), (QUARTER, "nearer"),
            ("nearer", ((True, 4), (3, 4))), ("nearer", ((1, 4), (1, 4))), ("nearer", None), ("nearer", ()),
            ("nearer", (1, 4)), ("nearer", QUARTER[::-1]), {"nearer": QUARTER}, (0, QUARTER), (None, QUARTER))
        for thing in things:
            with self.subTest(repr(thing)[:80]):
                self.assert_calls(False, nearest_holds, table=THIRD, t=2, other=HALVES, thing=thing)
                self.assert_calls(False, nearest_holds, table=THIRD, t=2, other=QUARTER, thing=thing)
        for thing in WRONG_TABLES:
            self.assert_calls(False, nearest_holds, table=THIRD, t=2, other=HALVES, thing=("nearer", thing))


class LeastBits(Case):
    """drawnbits/few.py: the least t for a distance."""

    def test_all(self):
        for table in TABLES + LONG_ONES:
            distances = [own_least(table, t) for t in range(34)]
            for number in [Fraction(0), Fraction(1), Fraction(1, 2), Fraction(1, 1000), Fraction(7, 1000)] + distances:
                found = [t for t in range(34) if distances[t] <= number]
                if found or number == 0:
                    wanted = found[0] if found else None
                    self.assert_calls(wanted, least_bits, table=table, fraction=pair(number))

    def test_known(self):
        for table, number, found in ((THIRD, (1, 3), 0), (THIRD, (1, 4), 1), (THIRD, (1, 6), 1), (THIRD, (1, 7), 2),
                                     (SURE, (0, 1), 0), (EDGE, (0, 1), 0), (HALVES, (0, 1), 1), (HALVES, (1, 2), 0),
                                     (EIGHT, (0, 1), 3), (FINE, (0, 1), 30), (FINE, (1, FULL), 0), (SKEW, (0, 1), None),
                                     (FINE, (1, FULL + 1), 30), (THIRD, (2, 1), 0), (THIRD, (10 ** 30, 1), 0),
                                     (((1, 1000), (999, 1000)), (1, 1000), 0)):
            self.assert_calls(found, least_bits, table=table, fraction=number)

    def test_small_distances(self):
        for table in (THIRD, SEVENTHS, SKEW):
            found = least_bits(table, (1, 10 ** 99))
            self.assertLessEqual(own_least(table, found), Fraction(1, 10 ** 99))
            self.assertGreater(own_least(table, found - 1), Fraction(1, 10 ** 99))


class Errors(Case):
    """[0.2], "The interface": which errors are raised, in the order of the parameters."""

    def test_wrong_tables_come_first(self):
        for wrong in WRONG_TABLES:
            with self.subTest(repr(wrong)[:80]):
                for t in (2, -1, None):
                    for call in (can_be_drawn, nearest):
                        self.assert_bad(BadTable, wrong, call, wrong, t)
                        self.assert_bad(BadTable, wrong, call, t=t, table=wrong)
                    self.assert_bad(BadTable, wrong, judge_nearest, wrong, t, None)
                    self.assert_bad(BadTable, wrong, judge_nearest, other=HALVES, t=t, table=wrong)
                    self.assert_bad(BadTable, wrong, nearest_holds, wrong, t, HALVES, ("nearest",))
                for number in ((1, 2), (2, 4), None):
                    self.assert_bad(BadTable, wrong, least_bits, wrong, number)
                    self.assert_bad(BadTable, wrong, least_bits, fraction=number, table=wrong)

    def test_wrong_numbers(self):
        for wrong in WRONG_NUMBERS:
            with self.subTest(repr(wrong)[:80]):
                for call in (can_be_drawn, nearest):
                    self.assert_bad(BadNumber, wrong, call, THIRD, wrong)
                    self.assert_bad(BadNumber, wrong, call, t=wrong, table=SURE)
                for other in (HALVES, None, SURE, THIRD, ((1, 2),)):
                    self.assert_bad(BadNumber, wrong, judge_nearest, THIRD, wrong, other)
                    self.assert_bad(BadNumber, wrong, nearest_holds, THIRD, wrong, other, None)
                    self.assert_bad(BadNumber, wrong, nearest_holds, thing=None, other=other, t=wrong, table=THIRD)

    def test_wrong_other_tables(self):
        for wrong in WRONG_TABLES + (THIRD, SKEW, THIRDS, ((1, 8), (7, 8)), ((1, 8), (3, 8), (1, 2)), FINE):
            with self.subTest(repr(wrong)[:80]):
                self.assert_bad(BadTable, wrong, judge_nearest, THIRD, 2, wrong)
                self.assert_bad(BadTable, wrong, judge_nearest, other=wrong, t=2, table=THIRD)
                self.assert_bad(BadTable, wrong, nearest_holds, THIRD, 2, wrong, ("nearest",))
                self.assert_bad(BadTable, wrong, nearest_holds, thing=None, other=wrong, t=2, table=THIRD)

    def test_other_sizes(self):
        for other in (SURE, ((1, 2), (1, 4), (1, 4)), EDGE + ((0, 1),)):
            self.assert_bad(OtherSize, other, judge_nearest, THIRD, 2, other)
            self.assert_bad(OtherSize, other, judge_nearest, other=other, t=2, table=THIRD)
            for thing in (None, ("nearest",), ("nearer", QUARTER)):
                self.assert_bad(OtherSize, other, nearest_holds, THIRD, 2, other, thing)

    def test_wrong_fractions(self):
        for wrong in WRONG_FRACTIONS + BELOW_ZERO:
            with self.subTest(repr(wrong)[:80]):
                for table in (THIRD, SURE):
                    self.assert_bad(BadFraction, wrong, least_bits, table, wrong)
                    self.assert_bad(BadFraction, wrong, least_bits, fraction=wrong, table=table)

    def test_what_is_passed_stays_as_it_was(self):
        for thing in (["nearest"], ("nearer", [[1, 4], [3, 4]]), {"nearer": [1]}):
            self.assert_calls(False, nearest_holds, table=THIRD, t=2, other=HALVES, thing=thing)


if __name__ == "__main__":
    unittest.main()
