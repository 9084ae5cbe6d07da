"""Part 1: tables, lots, tables made of tables, distances and chances of rows and counts."""

import unittest
from fractions import Fraction
from itertools import chain, combinations, product
from math import gcd

from drawnbits.errors import BadFraction, BadLot, BadOutcome, BadRow, BadTable, OtherSize, TooMany
from drawnbits.tables import beside, counts_chance, distance, given_lot, is_fraction, is_table, judge_near
from drawnbits.tables import lot_chance, mixed, near_holds, renamed, row_chance
from support import (BELOW_ZERO, EDGE, EIGHT, HALVES, JUNK, LONG, LONG_BOTTOM, SKEW, SURE, TABLES, THIRDS, UNEVEN,
                     WRONG_FRACTIONS, WRONG_ITEMS_OF_THREE, WRONG_LOTS_OF_THREE, WRONG_TABLES, WRONG_THREES, Case,
                     fraction, pair, table_of, told)

LEFT = ((1, 3), (2, 3))


def lots(many):
    """All lots of many outcomes."""
    return list(chain.from_iterable([combinations(range(many), k) for k in range(many + 1)]))


class Examples(Case):
    """The examples of drawnbits/tables.py, as the document has them."""

    def test_first(self):
        self.assert_same(
            [is_fraction((2, 4)), is_table(((1, 2), (1, 3))), is_table(((1, 1), (0, 1))), lot_chance(THIRDS, (0, 2)),
             renamed(THIRDS, (1, 0, 1)), given_lot(THIRDS, (0, 2)), mixed(HALVES, (HALVES, ((1, 1), (0, 1))))],
            [False, False, True, (2, 3), ((1, 3), (2, 3)), ((1, 2), (0, 1), (1, 2)), ((3, 4), (1, 4))])

    def test_second(self):
        self.assert_same(
            [beside(HALVES, ((1, 4), (3, 4))), distance(HALVES, ((1, 3), (2, 3))),
             judge_near(HALVES, ((1, 3), (2, 3)), (1, 6)),
             near_holds(HALVES, ((1, 3), (2, 3)), (1, 8), ('lot', (0,))), row_chance(THIRDS, (0, 0, 2)),
             counts_chance(HALVES, (2, 1))],
            [((1, 8), (3, 8), (1, 8), (3, 8)), (1, 6), ('within',), True, (1, 27), (3, 8)])


class Fractions(Case):
    """[0.2]: what a fraction is."""

    def test_small_pairs(self):
        for top, bottom in product(range(-12, 13), range(-3, 13)):
            self.assert_calls(bottom > 0 and gcd(top, bottom) == 1, is_fraction, thing=(top, bottom))

    def test_long_ones(self):
        self.assertIs(is_fraction((10 ** 99, 10 ** 99 - 1)), True)
        self.assertIs(is_fraction((10 ** 99, 10 ** 99 - 2)), False)
        self.assertIs(is_fraction((-1, 10 ** 99)), True)

    def test_wrong_values(self):
        for thing in WRONG_FRACTIONS:
            with self.subTest(repr(thing)[:80]):
                self.assert_calls(False, is_fraction, thing=thing)


class Tables(Case):
    """[1.1]: tables, lots and their chances."""

    def test_right_tables(self):
        for table in TABLES:
            self.assert_calls(True, is_table, thing=table)

    def test_wrong_values(self):
        for thing in WRONG_TABLES:
            with self.subTest(repr(thing)[:80]):
                self.assert_calls(False, is_table, thing=thing)

    def test_one_and_eight_and_nine_outcomes(self):
        self.assertIs(is_table(((1, 1),)), True)
        self.assertIs(is_table(((1, 1),) + ((0, 1),) * 7), True)
        self.assertIs(is_table(((1, 1),) + ((0, 1),) * 8), False)
        self.assertIs(is_table(((1, 9),) * 9), False)

    def test_sums(self):
        for tops in product(range(0, 5), repeat=3):
            table = table_of([Fraction(top, 4) for top in tops])
            self.assertIs(is_table(table), sum(tops) == 4)

    def test_bottoms_of_thirty_digits(self):
        self.assertEqual(len(str(LONG_BOTTOM)), 30)
        self.assertIs(is_table(LONG), True)
        self.assertIs(is_table(((1, LONG_BOTTOM), (LONG_BOTTOM - 2, LONG_BOTTOM))), False)

    def test_chances_of_all_lots(self):
        for table in TABLES:
            for lot in lots(len(table)):
                self.assert_fraction(lot_chance(table, lot), sum([told(table)[i] for i in lot], Fraction(0)))

    def test_lot_edges(self):
        self.assert_calls((0, 1), lot_chance, table=UNEVEN, lot=())
        self.assert_calls((1, 1), lot_chance, table=EIGHT, lot=(0, 1, 2, 3, 4, 5, 6, 7))
        self.assert_calls((0, 1), lot_chance, table=EDGE, lot=(0,))
        self.assert_calls((1, 1), lot_chance, table=EDGE, lot=(1,))

    def test_wrong_lots(self):
        for lot in WRONG_LOTS_OF_THREE:
            with self.subTest(repr(lot)[:80]):
                self.assert_bad(BadLot, lot, lot_chance, THIRDS, lot)
                self.assert_bad(BadLot, lot, lot_chance, table=THIRDS, lot=lot)
        self.assert_bad(BadLot, (1,), lot_chance, SURE, (1,))
        self.assert_bad(BadLot, (8,), lot_chance, EIGHT, (8,))

    def test_table_comes_first(self):
        for table in WRONG_TABLES:
            with self.subTest(repr(table)[:80]):
                self.assert_bad(BadTable, table, lot_chance, table, (0,))
                self.assert_bad(BadTable, table, lot_chance, table, None)
                self.assert_bad(BadTable, table, lot_chance, table=table, lot=(1, 0))


class Renamed(Case):
    """[1.2]: tables renamed."""

    def test_all_names_of_three(self):
        for table in (THIRDS, ((1, 2), (1, 4), (1, 4)), ((0, 1), (2, 7), (5, 7))):
            for names in product(range(8), repeat=3):
                wanted = [Fraction(0)] * (max(names) + 1)
                for i, name in enumerate(names):
                    wanted[name] += told(table)[i]
                self.assert_same(renamed(table, names), table_of(wanted))

    def test_edges(self):
        self.assert_calls(((1, 1),), renamed, table=EIGHT, names=(0,) * 8)
        self.assert_calls(((0, 1),) * 7 + ((1, 1),), renamed, table=SURE, names=(7,))
        self.assert_calls(tuple(reversed(UNEVEN)), renamed, table=UNEVEN, names=(7, 6, 5, 4, 3, 2, 1, 0))
        self.assert_calls(((LONG_BOTTOM - 1, LONG_BOTTOM), (1, LONG_BOTTOM)), renamed, table=LONG, names=(1, 0))

    def test_wrong_names(self):
        for names in WRONG_THREES + ((0, 1, 8), (8, 8, 8), (0, 40, 1)):
            with self.subTest(repr(names)[:80]):
                self.assert_bad(BadOutcome, names, renamed, THIRDS, names)
                self.assert_bad(BadOutcome, names, renamed, table=THIRDS, names=names)

    def test_table_comes_first(self):
        for table in WRONG_TABLES:
            self.assert_bad(BadTable, table, renamed, table, (0, 0))
            self.assert_bad(BadTable, table, renamed, table, None)


class Given(Case):
    """[1.2]: tables given a lot."""

    def test_all_lots(self):
        for table in TABLES:
            for lot in lots(len(table)):
                whole = sum([told(table)[i] for i in lot], Fraction(0))
                if whole == 0:
                    self.assert_bad(BadLot, lot, given_lot, table, lot)
                    continue
                wanted = [told(table)[i] / whole if i in lot else 0 for i in range(len(table))]
                self.assert_calls(table_of(wanted), given_lot, table=table, lot=lot)

    def test_lots_of_the_chance_zero(self):
        self.assert_bad(BadLot, (), given_lot, THIRDS, ())
        self.assert_bad(BadLot, (1,), given_lot, SKEW, (1,))
        self.assert_bad(BadLot, (0,), given_lot, table=EDGE, lot=(0,))

    def test_wrong_lots(self):
        for lot in WRONG_LOTS_OF_THREE:
            with self.subTest(repr(lot)[:80]):
                self.assert_bad(BadLot, lot, given_lot, THIRDS, lot)

    def test_table_comes_first(self):
        for table in WRONG_TABLES:
            self.assert_bad(BadTable, table, given_lot, table, (0,))
            self.assert_bad(BadTable, table, given_lot, table, ())


class Mixed(Case):
    """[1.2]: tables mixed."""

    def test_pairs_and_triples(self):
        threes = (THIRDS, ((1, 2), (1, 4), (1, 4)), ((0, 1), (2, 7), (5, 7)), ((0, 1), (0, 1), (1, 1)))
        for table in (SURE, HALVES, EDGE, LEFT, THIRDS, LONG, ((1, 5), (0, 1), (4, 5))):
            for tables in product(threes, repeat=len(table)):
                wanted = [sum([told(table)[k] * told(tables[k])[i] for k in range(len(table))]) for i in range(3)]
                self.assert_same(mixed(table, tables), table_of(wanted))

    def test_edges(self):
        self.assert_calls(UNEVEN, mixed, table=SURE, tables=(UNEVEN,))
        self.assert_calls(((1, 1),), mixed, table=EIGHT, tables=(SURE,) * 8)
        wanted = [sum([chance * chance for chance in told(UNEVEN)]), 0]
        wanted[1] = 1 - wanted[0]
        tables = tuple([(chance, pair(1 - fraction(chance))) for chance in UNEVEN])
        self.assert_calls(table_of(wanted), mixed, table=UNEVEN, tables=tables)
        self.assert_calls(LONG, mixed, table=LONG, tables=(LONG, LONG))

    def test_wrong_table(self):
        for table in WRONG_TABLES:
            for tables in ((HALVES, HALVES), None, (HALVES, THIRDS), ()):
                self.assert_bad(BadTable, table, mixed, table, tables)

    def test_tables_that_are_none(self):
        wrong = [tables for tables in JUNK if tables != ()]
        wrong += [0, 1, HALVES, SURE, THIRDS, (1, 1), ((),), (((1, 2),), HALVES)]
        wrong += [[HALVES, HALVES], (HALVES, None), (HALVES, list(HALVES)), (None, HALVES), (HALVES, (HALVES,)),
                  (HALVES, ((1, 2), (2, 4))), (HALVES, ((True, 1), (0, 1))), {0: HALVES, 1: HALVES}]
        for tables in wrong:
            with self.subTest(repr(tables)[:80]):
                self.assert_bad(BadTable, tables, mixed, HALVES, tables)
                self.assert_bad(BadTable, tables, mixed, table=HALVES, tables=tables)

    def test_other_number_than_the_first_one(self):
        for tables, wrong in (((HALVES, THIRDS), THIRDS), ((THIRDS, HALVES, SURE), HALVES), ((SURE, SURE, EDGE), EDGE),
                              ((THIRDS, THIRDS, SURE, EIGHT), SURE), ((EIGHT, UNEVEN, SKEW), SKEW)):
            self.assert_bad(BadTable, wrong, mixed, HALVES, tables)
            self.assert_bad(BadTable, wrong, mixed, table=HALVES, tables=tables)

    def test_no_table_is_told_ahead_of_another_number(self):
        tables = (HALVES, THIRDS, None)
        self.assert_bad(BadTable, tables, mixed, HALVES, tables)

    def test_not_as_many_as_outcomes(self):
        for table, tables in ((HALVES, ()), (SURE, ()), (HALVES, (HALVES,)), (HALVES, (THIRDS, THIRDS, THIRDS)),
                              (SURE, (EIGHT, UNEVEN)), (EIGHT, (SURE,) * 7), (EIGHT, (SURE,) * 9)):
            self.assert_bad(OtherSize, tables, mixed, table, tables)
            self.assert_bad(OtherSize, tables, mixed, table=table, tables=tables)


class Beside(Case):
    """[1.2]: tables beside."""

    def test_all_pairs(self):
        for table, other in product(TABLES, TABLES):
            if len(table) * len(other) > 8:
                continue
            wanted = [0] * (len(table) * len(other))
            for x, y in product(range(len(table)), range(len(other))):
                wanted[x * len(other) + y] = told(table)[x] * told(other)[y]
            self.assert_calls(table_of(wanted), beside, table=table, other=other)

    def test_just_eight_and_above(self):
        quarters = ((1, 4),) * 4
        self.assert_calls(EIGHT, beside, table=HALVES, other=quarters)
        self.assert_calls(EIGHT, beside, table=quarters, other=HALVES)
        self.assert_calls(UNEVEN, beside, table=SURE, other=UNEVEN)
        self.assert_calls(UNEVEN, beside, table=UNEVEN, other=SURE)
        for table, other in ((THIRDS, THIRDS), (EIGHT, HALVES), (HALVES, EIGHT), (EIGHT, EIGHT), (quarters, THIRDS)):
            self.assert_raised(TooMany, {"most": 8}, beside, table, other)
            self.assert_raised(TooMany, {"most": 8}, beside, table=table, other=other)

    def test_wrong_tables(self):
        for wrong in WRONG_TABLES:
            with self.subTest(repr(wrong)[:80]):
                self.assert_bad(BadTable, wrong, beside, wrong, EIGHT)
                self.assert_bad(BadTable, wrong, beside, EIGHT, wrong)
                self.assert_bad(BadTable, wrong, beside, wrong, None)
                self.assert_bad(BadTable, None, beside, None, wrong)


class Near(Case):
    """[1.3]: distances and their certificates."""

    def pairs(self):
        return [(one, other) for one, other in product(TABLES, TABLES) if len(one) == len(other)]

    def greatest(self, table, other):
        """The greatest amount by which the chances of a lot differ: the distance, told in another way."""
        return max([abs(sum([told(table)[i] - told(other)[i] for i in lot], Fraction(0))) for lot in lots(len(table))])

    def test_distances(self):
        for table, other in self.pairs():
            self.assert_calls(pair(self.greatest(table, other)), distance, table=table, other=other)

    def test_distance_edges(self):
        self.assert_calls((0, 1), distance, table=SURE, other=SURE)
        self.assert_calls((1, 1), distance, table=EDGE, other=((1, 1), (0, 1)))
        self.assert_calls((0, 1), distance, table=LONG, other=LONG)
        self.assert_calls(pair(Fraction(1, 2) - Fraction(1, LONG_BOTTOM)), distance, table=HALVES, other=LONG)

    def fractions_around(self, table, other):
        far = self.greatest(table, other)
        near = [far, far + Fraction(1, 10 ** 9), far - Fraction(1, 10 ** 9), far / 2, far * 2, Fraction(0), Fraction(1),
                Fraction(5)]
        return sorted(set([number for number in near if number >= 0]))

    def test_all_certificates(self):
        for table, other in self.pairs():
            far = self.greatest(table, other)
            for limit in self.fractions_around(table, other):
                self.assert_calls(far <= limit, near_holds, table=table, other=other, fraction=pair(limit),
                                  thing=("within",))
                for lot in lots(len(table)) if len(table) < 8 else lots(8)[::7]:
                    amount = abs(sum([told(table)[i] - told(other)[i] for i in lot], Fraction(0)))
                    self.assertIs(near_holds(table, other, pair(limit), ("lot", lot)), amount > limit)

    def test_judged(self):
        for table, other in self.pairs():
            far = self.greatest(table, other)
            for limit in self.fractions_around(table, other):
                found = judge_near(table, other, pair(limit))
                self.assert_calls(found, judge_near, table=table, other=other, fraction=pair(limit))
                self.assertIs(near_holds(table, other, pair(limit), found), True)
                if far <= limit:
                    self.assert_same(found, ("within",))
                    continue
                word, lot = found
                self.assertEqual(word, "lot")
                self.assertIn(lot, lots(len(table)))
                amount = abs(sum([told(table)[i] - told(other)[i] for i in lot], Fraction(0)))
                self.assertGreater(amount, limit)

    def test_things_that_are_no_certificates(self):
        things = [("within", ()), ("within", (0,)), ["within"], "within", ("WITHIN",), (("within",),), ("within",) * 2,
                  ("lot",), ("lot", (0,), ()), ["lot", (0,)], ("Lot", (0,)), (("lot", (0,)),), ("lot", 0), (0,),
                  ("lot", ((0,),)), ("within", "lot"), ("lot", "within"), (True,), None, ()]
        things += [("lot", lot) for lot in WRONG_LOTS_OF_THREE]
        things += [thing for thing in JUNK if thing not in (("within",), ("lot", (0,)))]
        for thing in things:
            with self.subTest(repr(thing)[:80]):
                self.assert_calls(False, near_holds, table=((1, 1), (0, 1), (0, 1)), other=((0, 1), (1, 1), (0, 1)),
                                  fraction=(0, 1), thing=thing)
                self.assert_calls(False, near_holds, table=HALVES, other=HALVES, fraction=(0, 1), thing=thing)
        for lot in ((0,), (1,), (0, 2), (1, 2)):
            self.assert_calls(True, near_holds, table=((1, 1), (0, 1), (0, 1)), other=((0, 1), (1, 1), (0, 1)),
                              fraction=(0, 1), thing=("lot", lot))

    def test_wrong_tables_come_first(self):
        for wrong in WRONG_TABLES:
            for call, more in ((distance, ()), (judge_near, ((1, 2),)), (judge_near, (None,)),
                               (near_holds, ((1, 2), ("within",))), (near_holds, (None, None))):
                self.assert_bad(BadTable, wrong, call, wrong, HALVES, *more)
                self.assert_bad(BadTable, wrong, call, HALVES, wrong, *more)
                self.assert_bad(BadTable, wrong, call, wrong, None, *more)
                self.assert_bad(BadTable, None, call, None, wrong, *more)

    def test_other_sizes_come_second(self):
        for table, other in ((HALVES, THIRDS), (THIRDS, HALVES), (SURE, EIGHT), (EIGHT, SURE)):
            for call, more in ((distance, ()), (judge_near, ((1, 2),)), (judge_near, (None,)), (judge_near, ((-1, 2),)),
                               (near_holds, ((1, 2), ("within",))), (near_holds, (None, None))):
                self.assert_bad(OtherSize, other, call, table, other, *more)

    def test_wrong_fractions_come_third(self):
        for wrong in WRONG_FRACTIONS + BELOW_ZERO:
            with self.subTest(repr(wrong)[:80]):
                self.assert_bad(BadFraction, wrong, judge_near, HALVES, EDGE, wrong)
                self.assert_bad(BadFraction, wrong, judge_near, table=HALVES, other=EDGE, fraction=wrong)
                self.assert_bad(BadFraction, wrong, near_holds, HALVES, EDGE, wrong, ("within",))
                self.assert_bad(BadFraction, wrong, near_holds, HALVES, EDGE, wrong, None)


class Rows(Case):
    """[1.4]: row chances."""

    def test_all_short_rows(self):
        for table in TABLES:
            for k in range(3):
                for row in product(range(len(table)), repeat=k):
                    wanted = Fraction(1)
                    for i in row:
                        wanted *= told(table)[i]
                    self.assert_fraction(row_chance(table, row), wanted)

    def test_edges(self):
        self.assert_calls((1, 1), row_chance, table=UNEVEN, row=())
        self.assert_calls((1, 3 ** 60), row_chance, table=THIRDS, row=(0, 1, 2) * 20)
        self.assert_calls((1, LONG_BOTTOM ** 60), row_chance, table=LONG, row=(0,) * 60)
        self.assert_calls((0, 1), row_chance, table=EDGE, row=(1,) * 59 + (0,))
        self.assert_calls((1, 1), row_chance, table=EDGE, row=(1,) * 60)
        self.assert_calls((1, 8 ** 60), row_chance, table=EIGHT, row=(7,) * 60)
        self.assert_calls((1, 2 ** 70), row_chance, table=HALVES, row=(0,) * 70)

    def test_wrong_rows(self):
        for row in WRONG_ITEMS_OF_THREE:
            with self.subTest(repr(row)[:80]):
                self.assert_bad(BadRow, row, row_chance, THIRDS, row)
                self.assert_bad(BadRow, row, row_chance, table=THIRDS, row=row)
        self.assert_bad(BadRow, (7, 8), row_chance, EIGHT, (7, 8))

    def test_rows_need_not_ascend(self):
        self.assert_calls((1, 81), row_chance, table=THIRDS, row=(2, 0, 0, 1))

    def test_table_comes_first(self):
        for table in WRONG_TABLES:
            self.assert_bad(BadTable, table, row_chance, table, ())
            self.assert_bad(BadTable, table, row_chance, table=table, row=None)


class Counts(Case):
    """[1.4]: counts chances."""

    def test_against_all_rows(self):
        for table in (SURE, EDGE, LEFT, THIRDS, ((0, 1), (2, 7), (5, 7)), SKEW):
            for drawn in range(6):
                wanted = {}
                for row in product(range(len(table)), repeat=drawn):
                    counts = tuple([row.count(i) for i in range(len(table))])
                    chance = Fraction(1)
                    for i in row:
                        chance *= told(table)[i]
                    wanted[counts] = wanted.get(counts, 0) + chance
                for counts, chance in wanted.items():
                    self.assert_fraction(counts_chance(table, counts), chance)

    def test_forty_draws_add_up(self):
        for table in (HALVES, LEFT, EDGE):
            self.assertEqual(sum([fraction(counts_chance(table, (k, 40 - k))) for k in range(41)]), 1)

    def test_edges(self):
        self.assert_calls((1, 1), counts_chance, table=UNEVEN, counts=(0,) * 8)
        self.assert_calls((1, 1), counts_chance, table=SURE, counts=(40,))
        self.assert_calls((0, 1), counts_chance, table=EDGE, counts=(1, 0))
        self.assert_calls((1, 1), counts_chance, table=EDGE, counts=(0, 40))
        self.assert_calls((1, LONG_BOTTOM ** 40), counts_chance, table=LONG, counts=(40, 0))
        many = 1
        for k in range(1, 321):
            many *= k
        for _ in range(8):
            for k in range(1, 41):
                many //= k
        self.assert_calls(pair(Fraction(many, 8 ** 320)), counts_chance, table=EIGHT, counts=(40,) * 8)

    def test_wrong_counts(self):
        for counts in WRONG_THREES:
            with self.subTest(repr(counts)[:80]):
                self.assert_bad(BadRow, counts, counts_chance, THIRDS, counts)
                self.assert_bad(BadRow, counts, counts_chance, table=THIRDS, counts=counts)
        self.assert_bad(BadRow, (41,), counts_chance, SURE, (41,))

    def test_table_comes_first(self):
        for table in WRONG_TABLES:
            self.assert_bad(BadTable, table, counts_chance, table, (0, 0))
            self.assert_bad(BadTable, table, counts_chance, table=table, counts=None)


if __name__ == "__main__":
    unittest.main()
