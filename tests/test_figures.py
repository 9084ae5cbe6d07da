"""Part 2: figures, digits, rests, weights and entropies."""

import unittest
from decimal import Decimal, getcontext
from fractions import Fraction
from itertools import product
from math import gcd

from drawnbits.errors import BadFigures, BadFraction, BadNumber, BadTable
from drawnbits.figures import are_figures, digit, figures, fraction_of, is_entropy_at_least, rest_at, weight
from support import (BELOW_ZERO, EDGE, EIGHT, HALVES, JUNK, SHOP, SKEW, SURE, THIRDS, UNEVEN, WRONG_FRACTIONS,
                     WRONG_NUMBERS, WRONG_TABLES, Case, fraction, pair, table_of)

HUGE = 10 ** 30
# All fractions with small bottoms, and some with great ones: a power of 2, a long round, both, and just 1,000.
SMALL = [(top, bottom) for bottom in range(1, 26) for top in range(60) if gcd(top, bottom) == 1]
GREAT = [(1, 512), (511, 512), (1023, 512), (1, 997), (996, 997), (5000, 997), (1, 983), (77, 984), (1, 1000),
         (999, 1000), (123457, 1000), (1, 992), (991, 896), (1, 947)]
ALL = SMALL + GREAT
PLAIN_CALLS = (figures, weight)
PLACE_CALLS = (digit, rest_at)


def digits_of(number, many):
    """The first digits of a fraction behind the point, each reckoned from the whole part of a multiple."""
    return tuple([(number.numerator * 2 ** k // number.denominator) % 2 for k in range(1, many + 1)])


def worth(told):
    """The fraction with these digits, as a sum over its places."""
    whole, ahead, cycle = told
    found = Fraction(whole)
    for k, bit in enumerate(ahead, 1):
        found += Fraction(bit, 2 ** k)
    for k, bit in enumerate(cycle, len(ahead) + 1):
        # The places k, k + n, k + 2 n .. of a round of n digits.
        found += Fraction(bit, 2 ** k) / (1 - Fraction(1, 2 ** len(cycle)))
    return found


def weight_by_places(told):
    """The weight, as a sum over the places of the figures."""
    _, ahead, cycle = told
    found = Fraction(0)
    for k, bit in enumerate(ahead, 1):
        found += Fraction(k * bit, 2 ** k)
    for k, bit in enumerate(cycle, len(ahead) + 1):
        ratio = Fraction(1, 2 ** len(cycle))
        # The sum of (k + n m) / 2 ** (k + n m) over all m from 0 on.
        found += bit * Fraction(1, 2 ** k) * (k / (1 - ratio) + len(cycle) * ratio / (1 - ratio) ** 2)
    return found


def first_figures(number, most):
    """The figures of a fraction, found by trying all rows ahead and all rounds, the shortest ones first."""
    whole = number.numerator // number.denominator
    for many in range(most + 1):
        ahead = digits_of(number, many)
        if worth((whole, ahead, ())) == number:
            return (whole, ahead, ())
    for length in range(1, most + 1):
        for many in range(most + 1):
            row = digits_of(number, many + length)
            if worth((whole, row[:many], row[many:])) == number:
                return (whole, row[:many], row[many:])
    return None


class Examples(Case):
    """The examples of drawnbits/figures.py, as the document has them."""

    def test_first(self):
        self.assert_same(
            [figures((1, 3)), figures((1, 6)), figures((5, 8)), figures((1, 1)), fraction_of((0, (0,), (0, 1))),
             are_figures((0, (1, 0), ())), are_figures((0, (), (1,)))],
            [(0, (), (0, 1)), (0, (0,), (0, 1)), (0, (1, 0, 1), ()), (1, (), ()), (1, 6), False, False])

    def test_second(self):
        self.assert_same(
            [digit((1, 3), 10 ** 30), rest_at((1, 3), 1), weight((1, 3)), weight((2, 3)), weight((5, 8)),
             is_entropy_at_least(((1, 3), (2, 3)), (9, 10)), is_entropy_at_least(((1, 3), (2, 3)), (23, 25))],
            [1, (2, 3), (8, 9), (10, 9), (7, 8), True, False])


class Figures(Case):
    """[2.1]: figures."""

    def test_small_ones_by_trying(self):
        for found in SMALL:
            self.assert_calls(first_figures(fraction(found), 20), figures, fraction=found)

    def test_digits_and_worth(self):
        for found in GREAT:
            whole, ahead, cycle = figures(found)
            self.assertEqual(worth((whole, ahead, cycle)), fraction(found))
            row = digits_of(fraction(found), 2100)
            self.assertEqual(whole, found[0] // found[1])
            self.assertEqual((ahead + (cycle or (0,)) * 2100)[:2100], row)

    def test_edges(self):
        self.assert_calls((0, (), ()), figures, fraction=(0, 1))
        self.assert_calls((10 ** 99, (), ()), figures, fraction=(10 ** 99, 1))
        self.assert_calls((0, (0,) * 8 + (1,), ()), figures, fraction=(1, 512))
        self.assert_calls((1, (1,) * 9, ()), figures, fraction=(1023, 512))
        self.assert_calls((2, (), (1, 0)), figures, fraction=(8, 3))
        self.assert_calls((2, (1, 1), (1, 0, 0)), figures, fraction=(81, 28))
        self.assert_same([len(part) for part in figures((1, 1000))[1:]], [3, 100])
        self.assert_same([len(part) for part in figures((1, 947))[1:]], [0, 946])
        self.assert_same([len(part) for part in figures((1, 1019))[1:]], [0, 1018])

    def test_right_figures(self):
        for found in ALL:
            self.assert_calls(True, are_figures, thing=figures(found))

    def test_all_short_rows(self):
        rows = [row for many in range(5) for row in product((0, 1), repeat=many)]
        for ahead, cycle in product(rows, rows):
            thing = (3, ahead, cycle)
            right = first_figures(worth(thing), 8) == thing
            self.assert_calls(right, are_figures, thing=thing)
            if right:
                self.assert_calls(pair(worth(thing)), fraction_of, told=thing)
            else:
                self.assert_bad(BadFigures, thing, fraction_of, thing)

    def test_rounds_of_six(self):
        for cycle in product((0, 1), repeat=6):
            shorter = [k for k in (1, 2, 3) if cycle[:k] * (6 // k) == cycle]
            self.assertIs(are_figures((0, (), cycle)), not shorter)

    def test_back_again(self):
        for found in ALL:
            self.assert_calls(found, fraction_of, told=figures(found))

    def test_long_figures(self):
        ahead = (0,) * 998 + (1,)
        cycle = (0,) * 999 + (1,)
        self.assert_calls((2 ** 999 + 1, 2 ** 999), fraction_of, told=(1, ahead, ()))
        self.assert_calls((1, 2 ** 1000 - 1), fraction_of, told=(0, (), cycle))
        self.assert_bad(BadFigures, (0, (), cycle + cycle), fraction_of, (0, (), cycle + cycle))
        self.assert_bad(BadFigures, (0, ahead, cycle), fraction_of, (0, ahead, cycle))
        self.assertEqual(fraction(fraction_of((0, ahead + (0,), cycle))), worth((0, ahead + (0,), cycle)))

    def test_things_that_are_none(self):
        things = JUNK + (
            (), 0, 1, (0,), (0, ()), (0, (), (), ()), [0, (), ()], (0, [], ()), (0, (), []), (0, [1], ()),
            (0, (), [0, 1]), (True, (), ()), (False, (), ()), (0, (True,), ()), (0, (0, True), ()), (0, (), (False, 1)),
            (0, (), (0, True)), (-1, (), ()), (-1, (1,), ()), (None, (), ()), (0, None, ()), (0, (), None), (0, 0, 0),
            (0, (2,), ()), (0, (-1,), ()), (0, (2, 1), ()), (0, (-1, 1), ()), (0, (2,), (0, 1)), (0, (), (0, 2)),
            (0, (), (0, -1)), (0, ("1",), ()), (0, ((1,),), ()),
            (0, "1", ""), (0, "", ""), ((0, 1), (), ()), ("0", (), ()), (0.0, (), ()), (0, (1, 0), ()), (0, (0,), ()),
            (0, (), (0,)), (0, (), (1,)), (0, (1,), (0,)), (0, (), (0, 0)), (0, (), (1, 1)), (0, (), (0, 1, 0, 1)),
            (0, (1,), (0, 1)), (0, (0,), (1, 0)), (0, (), (0, 1), ()), ((0, (), ()),), (0, (SHOP,), ()))
        for thing in things:
            with self.subTest(repr(thing)[:80]):
                self.assert_calls(False, are_figures, thing=thing)
                self.assert_bad(BadFigures, thing, fraction_of, thing)
                self.assert_bad(BadFigures, thing, fraction_of, told=thing)


class Rests(Case):
    """[2.1], [2.2]: digits and rests at single places."""

    def test_first_places(self):
        for found in ALL:
            number = fraction(found)
            self.assert_same(tuple([digit(found, k) for k in range(1, 41)]), digits_of(number, 40))
            for k in range(40):
                self.assert_fraction(rest_at(found, k), number * 2 ** k % 1)

    def test_far_places(self):
        for found in ALL:
            top, bottom = found
            for k in (HUGE, HUGE - 1, HUGE - 12345, 10 ** 29 + 1, 64, 1000, 2 ** 90):
                left = top * pow(2, k, bottom) % bottom
                self.assert_fraction(rest_at(found, k), Fraction(left, bottom))
                whole, ahead, cycle = figures(found)
                at = (k - 1 - len(ahead)) % len(cycle) if cycle else 0
                self.assert_same(digit(found, k), (ahead + cycle)[len(ahead) + at] if cycle else 0)

    def test_by_position_and_by_name(self):
        self.assert_calls((1, 3), rest_at, fraction=(4, 3), k=0)
        self.assert_calls((2, 3), rest_at, fraction=(4, 3), k=1)
        self.assert_calls((1, 3), rest_at, fraction=(1, 3), k=HUGE)
        self.assert_calls((0, 1), rest_at, fraction=(511, 512), k=HUGE)
        self.assert_calls(0, digit, fraction=(4, 3), k=1)
        self.assert_calls(1, digit, fraction=(4, 3), k=HUGE)
        self.assert_calls(0, digit, fraction=(511, 512), k=HUGE)
        self.assert_calls(1, digit, fraction=(511, 512), k=9)
        self.assert_calls(0, digit, fraction=(511, 512), k=10)
        self.assert_calls((0, 1), rest_at, fraction=(7, 1), k=0)
        self.assert_calls(0, digit, fraction=(0, 1), k=1)

    def test_wrong_numbers(self):
        for k in WRONG_NUMBERS:
            with self.subTest(repr(k)[:80]):
                for call in PLACE_CALLS:
                    self.assert_bad(BadNumber, k, call, (1, 3), k)
                    self.assert_bad(BadNumber, k, call, fraction=(1, 3), k=k)

    def test_place_zero_has_no_digit(self):
        self.assert_bad(BadNumber, 0, digit, (1, 3), 0)
        self.assert_bad(BadNumber, 0, digit, fraction=(1, 3), k=0)
        self.assert_calls((1, 3), rest_at, fraction=(1, 3), k=0)

    def test_fraction_comes_first(self):
        for wrong in WRONG_FRACTIONS + BELOW_ZERO:
            with self.subTest(repr(wrong)[:80]):
                for call in PLACE_CALLS:
                    for k in (1, 0, -1, None, True):
                        self.assert_bad(BadFraction, wrong, call, wrong, k)
                        self.assert_bad(BadFraction, wrong, call, fraction=wrong, k=k)
                for call in PLAIN_CALLS:
                    self.assert_bad(BadFraction, wrong, call, wrong)
                    self.assert_bad(BadFraction, wrong, call, fraction=wrong)


class Weights(Case):
    """[2.3]: weights."""

    def test_by_places(self):
        for found in ALL:
            self.assert_calls(pair(weight_by_places(figures(found))), weight, fraction=found)

    def test_between_sums_of_many_places(self):
        for found in ALL:
            row = digits_of(fraction(found), 80)
            least = sum([Fraction(k * bit, 2 ** k) for k, bit in enumerate(row, 1)])
            self.assertLessEqual(least, fraction(weight(found)))
            # All places k above 80 together have at most the sum of k / 2 ** k.
            self.assertLess(fraction(weight(found)), least + Fraction(82, 2 ** 80))

    def test_edges(self):
        self.assert_calls((0, 1), weight, fraction=(0, 1))
        self.assert_calls((0, 1), weight, fraction=(17, 1))
        self.assert_calls((1, 2), weight, fraction=(1, 2))
        self.assert_calls((9, 512), weight, fraction=(1, 512))
        self.assert_calls((8, 9), weight, fraction=(7, 3))


class Entropies(Case):
    """[2.4]: entropies."""

    def test_entropies_that_are_fractions(self):
        for table, number in ((SURE, 0), (EDGE, 0), (((0, 1),) * 7 + ((1, 1),), 0), (HALVES, 1), (EIGHT, 3),
                              (((1, 4),) * 4, 2), (((1, 2), (1, 4), (1, 4)), Fraction(3, 2)),
                              (((1, 2), (0, 1), (1, 4), (1, 8), (1, 8)), Fraction(7, 4)),
                              (table_of([Fraction(1, 2 ** k) for k in (1, 2, 3, 4, 5, 6, 7, 7)]), Fraction(127, 64))):
            for bottom in range(1, 21):
                for top in (int(number * bottom) + more for more in (-1, 0, 1, 2)):
                    if gcd(top, bottom) == 1:
                        self.assert_calls(number >= Fraction(top, bottom), is_entropy_at_least, table=table,
                                          fraction=(top, bottom))
            self.assert_calls(True, is_entropy_at_least, table=table, fraction=pair(number))

    def test_against_logarithms(self):
        getcontext().prec = 60
        tables = [THIRDS, ((1, 3), (2, 3)), SKEW, UNEVEN, ((1, 7),) * 7, ((1, 5), (4, 5)), ((1, 1000), (999, 1000)),
                  ((1, 10), (2, 5), (3, 10), (1, 5)), ((1, 30), (0, 1), (29, 30)), ((2, 9), (7, 9), (0, 1))]
        for table in tables:
            entropy = Decimal(0)
            for top, bottom in table:
                if top > 0:
                    chance = Decimal(top) / Decimal(bottom)
                    entropy -= chance * chance.ln() / Decimal(2).ln()
            most = 4000 // max([bottom for _, bottom in table])
            for bottom in range(1, min(most, 60) + 1):
                near = int(entropy * bottom)
                for top in (near - 1, near, near + 1, near + 2):
                    if gcd(top, bottom) == 1:
                        right = entropy >= Decimal(top) / Decimal(bottom)
                        self.assertIs(is_entropy_at_least(table, (top, bottom)), right)

    def test_edges(self):
        self.assert_calls(True, is_entropy_at_least, table=SURE, fraction=(0, 1))
        self.assert_calls(False, is_entropy_at_least, table=SURE, fraction=(1, 4000))
        self.assert_calls(True, is_entropy_at_least, table=SURE, fraction=(-1, 4000))
        self.assert_calls(True, is_entropy_at_least, table=UNEVEN, fraction=(-9999, 1))
        self.assert_calls(False, is_entropy_at_least, table=EIGHT, fraction=(9999, 1))
        self.assert_calls(False, is_entropy_at_least, table=EIGHT, fraction=(1501, 500))
        self.assert_calls(True, is_entropy_at_least, table=EIGHT, fraction=(1499, 500))
        self.assert_calls(True, is_entropy_at_least, table=EIGHT, fraction=(3, 1))
        self.assert_calls(False, is_entropy_at_least, table=HALVES, fraction=(2001, 2000))
        self.assert_calls(True, is_entropy_at_least, table=HALVES, fraction=(1999, 2000))
        self.assert_calls(False, is_entropy_at_least, table=((1, 1000), (999, 1000)), fraction=(1, 4))
        self.assert_calls(True, is_entropy_at_least, table=((1, 1000), (999, 1000)), fraction=(0, 1))
        self.assert_calls(False, is_entropy_at_least, table=((1, 4000), (3999, 4000)), fraction=(1, 1))

    def test_wrong_tables_come_first(self):
        for table in WRONG_TABLES:
            for wanted in ((1, 2), (-1, 2), None, (2, 4)):
                self.assert_bad(BadTable, table, is_entropy_at_least, table, wanted)
                self.assert_bad(BadTable, table, is_entropy_at_least, table=table, fraction=wanted)

    def test_wrong_fractions(self):
        for wrong in WRONG_FRACTIONS:
            with self.subTest(repr(wrong)[:80]):
                self.assert_bad(BadFraction, wrong, is_entropy_at_least, HALVES, wrong)
                self.assert_bad(BadFraction, wrong, is_entropy_at_least, table=HALVES, fraction=wrong)

    def test_fractions_below_zero(self):
        for table in (SURE, HALVES, EDGE, SKEW):
            for below in BELOW_ZERO:
                self.assert_calls(True, is_entropy_at_least, table=table, fraction=below)


if __name__ == "__main__":
    unittest.main()
