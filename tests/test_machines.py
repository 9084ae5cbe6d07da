"""Part 3: machines, runs, rows counted, sure ends, chances and means."""

import unittest
from fractions import Fraction
from itertools import product

from coins import (ANY_BIT, AT_ONCE, AT_ONCE_OF_EIGHT, COIN, DIE_OF_SIX, EIGHTHS, LATE, LOST, MACHINES, NEVER,
                   NEVER_OF_THREE, SMALL, THIRDS_COIN, TRAP, TRAP_APART, TWICE, TWO_TRAPS, UNREACHED, WAITING,
                   WRONG_BITS, WRONG_MACHINES, all_machines, chain, come_to, followed, is_sure, numbers, own_chances,
                   ring, rows, some_machines, standings_reached)
from drawnbits.best import best_machine
from drawnbits.errors import BadBits, BadMachine, BadNumber, BadOutcome, BadTable, Endless, OtherSize
from drawnbits.machines import (are_bits, chances, chances_within, does_end, drawn_table, ends_hold, is_machine,
                                judge_ends, judge_table, many_rows, mean, reached, run, table_holds, tail)
from support import HALVES, JUNK, SURE, THIRDS, WRONG_NUMBERS, WRONG_TABLES, Case, pair, table_of

SURE_ONES = [machine for machine in MACHINES if is_sure(machine)]
ENDLESS = [machine for machine in MACHINES if not is_sure(machine)]
FIRST = (1, 3), (2, 3)
WRONG_OUTCOMES_OF_TWO = JUNK + (2, 3, -1, "0", "1", (0,), [0], ((0,),), 10 ** 99, 1.0)


def is_way_out(machine, start, row):
    """Whether a row leads from a standing to an outcome, just at its end."""
    at = come_to(machine, row, start)
    return at is not None and machine[1][at][0] == "out"


def is_closed_lot(machine, lot):
    """Whether all standings of a lot are tosses to standings of the lot."""
    return all([machine[1][at][0] == "toss" and set(machine[1][at][1:]) <= set(lot) for at in lot])


class Examples(Case):
    """The examples of drawnbits/machines.py, as the document has them."""

    def test_first(self):
        self.assert_same(
            [run(THIRDS_COIN, (1, 1, 0)), run(THIRDS_COIN, (0, 1)), run(THIRDS_COIN, (1,)),
             many_rows(THIRDS_COIN, 1, 3), chances_within(THIRDS_COIN, 2), tail(THIRDS_COIN, 2),
             drawn_table(THIRDS_COIN), mean(THIRDS_COIN)],
            [(1, 3), (1, 1), None, 1, ((1, 4), (1, 2)), (1, 4), ((1, 3), (2, 3)), (2, 1)])

    def test_second(self):
        self.assert_same(
            [judge_ends(LOST)[0], chances(LOST), table_holds(THIRDS_COIN, ((1, 2), (1, 2)), ('over', 1, 3)),
             tail(LOST, 200)],
            ['closed', ((1, 2),), True, (1, 2)])


class Machines(Case):
    """[3.1]: machines and rows of bits."""

    def test_right_machines(self):
        for machine in MACHINES + tuple(SMALL):
            self.assertIs(is_machine(machine), True)
        for machine in MACHINES:
            self.assert_calls(True, is_machine, thing=machine)

    def test_wrong_values(self):
        for thing in WRONG_MACHINES:
            with self.subTest(repr(thing)[:80]):
                self.assert_calls(False, is_machine, thing=thing)

    def test_numbers_of_outcomes(self):
        for n in range(-2, 12):
            self.assertIs(is_machine((n, (("out", 0),))), 1 <= n <= 8)
            for i in range(-2, 12):
                self.assertIs(is_machine((n, (("out", i),))), 1 <= n <= 8 and 0 <= i < n)

    def test_positions(self):
        for many, a, b in product((1, 2, 5, 60), range(-1, 62), (0, 1, 59, 60)):
            machine = (1, (("toss", a, b),) + (("out", 0),) * (many - 1))
            self.assertIs(is_machine(machine), 0 <= a < many and 0 <= b < many)

    def test_wrong_at_each_standing(self):
        standings = chain(60)[1]
        for k in range(60):
            for wrong in (("toss", 0, 60), ("out", 2), ("out",), (), None, ["out", 0], ("toss", 0, True)):
                self.assertIs(is_machine((2, standings[:k] + (wrong,) + standings[k + 1:])), False)

    def test_rows_of_bits(self):
        for bits in [row for k in range(5) for row in rows(k)] + [(0,) * 400, (0, 1) * 200, (1,) * 500]:
            self.assert_calls(True, are_bits, thing=bits)
        for thing in WRONG_BITS:
            with self.subTest(repr(thing)[:80]):
                self.assert_calls(False, are_bits, thing=thing)


class Runs(Case):
    """[3.1]: runs, and which standings can be reached."""

    def test_all_short_rows(self):
        for machine in MACHINES:
            for k in range(7):
                for row in rows(k):
                    self.assert_same(run(machine, row), followed(machine, row))

    def test_edges(self):
        self.assert_calls((0, 0), run, machine=AT_ONCE, bits=())
        self.assert_calls((5, 0), run, machine=AT_ONCE_OF_EIGHT, bits=(1, 0, 1))
        self.assert_calls(None, run, machine=THIRDS_COIN, bits=())
        self.assert_calls(None, run, machine=NEVER, bits=(0, 1) * 200)
        self.assert_calls(None, run, machine=THIRDS_COIN, bits=(1,) * 400)
        self.assert_calls((1, 400), run, machine=LATE, bits=(1,) * 399 + (0,))
        self.assert_calls((1, 399), run, machine=LATE, bits=(1,) * 398 + (0, 1))
        self.assert_calls((1, 58), run, machine=chain(60), bits=(1,) * 58)
        self.assert_calls((0, 58), run, machine=chain(60), bits=(1,) * 57 + (0,) * 300)
        self.assert_calls(None, run, machine=chain(60), bits=(1,) * 57)

    def test_reached(self):
        for machine in MACHINES:
            self.assert_calls(tuple(sorted(standings_reached(machine))), reached, machine=machine)
        self.assert_calls((0,), reached, machine=AT_ONCE)
        self.assert_calls((0, 1, 3), reached, machine=UNREACHED)
        self.assert_calls((0, 1, 2, 5), reached, machine=TRAP_APART)

    def test_reached_by_rows(self):
        for machine in SMALL:
            found = {come_to(machine, row) for k in range(3) for row in rows(k)} - {None}
            self.assert_same(reached(machine), tuple(sorted(found)))


class Counted(Case):
    """[3.2]: rows, chances within t bits and tails."""

    def check_counts(self, machine, most):
        told = numbers(machine, most)
        within = [Fraction(0)] * machine[0]
        for k in range(most + 1):
            within = [chance + Fraction(many, 2 ** k) for chance, many in zip(within, told[k])]
            self.assert_same([many_rows(machine, i, k) for i in range(machine[0])], told[k])
            self.assert_same(chances_within(machine, k), table_of(within))
            self.assert_fraction(tail(machine, k), 1 - sum(within))

    def test_small_ones_row_by_row(self):
        for machine in all_machines(1, 2) + all_machines(2, 2) + all_machines(2, 3)[::5]:
            self.check_counts(machine, 4)

    def test_others_row_by_row(self):
        for machine in MACHINES:
            self.check_counts(machine, 8)

    def test_far_lengths(self):
        for k in (0, 1, 2, 57, 58, 59, 199, 200):
            self.assert_calls(int(k == 58), many_rows, machine=chain(60), i=1, k=k)
            self.assert_calls(int(0 < k < 59), many_rows, machine=chain(60), i=0, k=k)
            self.assert_calls(1 if k % 2 == 1 else 0, many_rows, machine=THIRDS_COIN, i=1, k=k)
            self.assert_calls(1 if k == 0 else 0, many_rows, machine=AT_ONCE, i=0, k=k)
            self.assert_calls(0, many_rows, machine=NEVER_OF_THREE, i=2, k=k)
            self.assert_calls(int(k > 1), many_rows, machine=LATE, i=1, k=k)

    def test_far_tails(self):
        for t in (0, 1, 2, 3, 100, 199, 200):
            self.assert_calls((1, 2 ** t), tail, machine=THIRDS_COIN, t=t)
            self.assert_calls((1, 2 ** t), tail, machine=WAITING, t=t)
            self.assert_calls((1, 1), tail, machine=NEVER, t=t)
            self.assert_calls((0, 1), tail, machine=AT_ONCE_OF_EIGHT, t=t)
            self.assert_calls((1, 1) if t == 0 else (1, 2), tail, machine=LOST, t=t)
            self.assert_calls((1, 2 ** t) if t < 58 else (0, 1), tail, machine=chain(60), t=t)
            wanted = [Fraction(0), Fraction(0)]
            for k in range(1, t + 1):
                wanted[k % 2] += Fraction(1, 2 ** k)
            self.assert_calls(table_of(wanted), chances_within, machine=THIRDS_COIN, t=t)
            self.assert_calls(((1, 1),), chances_within, machine=AT_ONCE, t=t)
            self.assert_calls(((0, 1),) * 3, chances_within, machine=NEVER_OF_THREE, t=t)

    def test_the_parts_make_a_whole(self):
        for machine in MACHINES:
            for t in (0, 1, 7, 100, 200):
                parts = [Fraction(*chance) for chance in chances_within(machine, t)] + [Fraction(*tail(machine, t))]
                self.assertEqual(sum(parts), 1)
                self.assertEqual([part < 0 for part in parts], [False] * len(parts))


class Ends(Case):
    """[3.3]: machines that end surely, and certificates."""

    def check_certificate(self, machine, found):
        """A certificate is of the right kind, and is what the document says of it."""
        there = tuple(sorted(standings_reached(machine)))
        if is_sure(machine):
            self.assertEqual(found[0], "sure")
            self.assert_same(tuple([at for at, _ in found[1]]), there)
            self.assertTrue(all([is_way_out(machine, at, row) for at, row in found[1]]))
            return
        word, bits, lot = found
        self.assertEqual(word, "closed")
        self.assertIn(come_to(machine, bits), lot)
        self.assertTrue(is_closed_lot(machine, lot))
        self.assertEqual(lot, tuple(sorted(set(lot))))

    def test_judged(self):
        for machine in tuple(SMALL) + MACHINES:
            found = judge_ends(machine)
            self.check_certificate(machine, found)
            self.assertIs(ends_hold(machine, found), True)
            self.assertIs(does_end(machine), is_sure(machine))
        for machine in MACHINES:
            self.assert_calls(judge_ends(machine), judge_ends, machine=machine)
            self.assert_calls(is_sure(machine), does_end, machine=machine)
            self.assert_calls(True, ends_hold, machine=machine, thing=judge_ends(machine))

    def test_ends_surely_is_what_tails_tell(self):
        for machine in SMALL:
            # From each of at most 3 standings a way out has at most 2 bits.
            self.assertIs(does_end(machine), Fraction(*tail(machine, 40)) <= Fraction(3, 4) ** 20)

    def test_all_short_certificates(self):
        short = [row for k in range(4) for row in rows(k)]
        lots = [(), (0,), (1,), (2,), (0, 1), (0, 2), (1, 2), (0, 1, 2)]
        for machine in all_machines(2, 3)[::7] + all_machines(1, 2):
            for bits, lot in product(short, lots):
                right = come_to(machine, bits) in lot and max(lot) < len(machine[1]) and is_closed_lot(machine, lot)
                self.assertIs(ends_hold(machine, ("closed", bits, lot)), right)

    def test_all_short_ways(self):
        short = [row for k in range(3) for row in rows(k)]
        for machine in all_machines(1, 2) + all_machines(2, 2):
            there = sorted(standings_reached(machine))
            for many in range(len(there) + 1):
                for told in product(short, repeat=many):
                    ways = tuple(zip(there, told))
                    right = many == len(there) and all([is_way_out(machine, at, row) for at, row in ways])
                    self.assertIs(ends_hold(machine, ("sure", ways)), right)

    def test_ways_that_are_longer(self):
        for bits in ((0,), (1, 0), (1, 1, 0), (1, 1, 1, 0)):
            ways = ((0, bits), (1, ()), (2, (1,) + bits), (3, ()))
            self.assert_calls(True, ends_hold, machine=THIRDS_COIN, thing=("sure", ways))
            for wrong in (((0, bits + (0,)),) + ways[1:], ways[:1] + ((1, (0,)),) + ways[2:], ways[:3],
                          ((0, bits[:-1]),) + ways[1:], ways + ((3, ()),), ways[1:], ways[::-1], list(ways),
                          ((0, list(bits)),) + ways[1:], (list(ways[0]),) + ways[1:], ((False, bits),) + ways[1:],
                          ways[:1] + ((True, ()),) + ways[2:], ((0, bits, ()),) + ways[1:], ((0,),) + ways[1:],
                          ways[:1] + ways, ways + ((4, ()),), ((0, (False,)),) + ways[1:], (0,) + ways[1:],
                          ((-4, bits),) + ways[1:], (("0", bits),) + ways[1:], ((0, None),) + ways[1:], dict(ways),
                          ((0, bits[0]),) + ways[1:], ways[:1] + ((1, None),) + ways[2:], (), None, ways[0]):
                self.assert_calls(False, ends_hold, machine=THIRDS_COIN, thing=("sure", wrong))

    def test_standings_that_cannot_be_reached(self):
        self.assert_calls(True, does_end, machine=TRAP_APART)
        self.assert_calls(True, does_end, machine=UNREACHED)
        right = ("sure", ((0, (0,)), (1, ()), (2, (1,)), (5, ())))
        self.assert_calls(True, ends_hold, machine=TRAP_APART, thing=right)
        more = ("sure", ((0, (0,)), (1, ()), (2, (1,)), (3, ()), (4, ()), (5, ())))
        self.assert_calls(False, ends_hold, machine=TRAP_APART, thing=more)
        for bits in rows(3):
            self.assert_calls(False, ends_hold, machine=TRAP_APART, thing=("closed", bits, (3, 4)))

    def test_lots(self):
        for bits in ((1, 0), (1, 0, 1), (1, 0, 0, 1), (1, 0) + (0, 1) * 199):
            self.assert_calls(True, ends_hold, machine=TRAP, thing=("closed", bits, (3, 4)))
        for lot in ((3, 4, 4), (4, 3), (3,), (4,), (), (3, 4, 5), (2, 3, 4), (0, 3, 4), [3, 4], (3, 4, 6), (True, 3, 4),
                    (3, 4, None), 3, None, "34", ((3, 4),), (-1, 3, 4), {3: 4}, (3, 4, 10 ** 99)):
            self.assert_calls(False, ends_hold, machine=TRAP, thing=("closed", (1, 0), lot))
        for bits in ((), (1,), (0,), (0, 1, 0), (1, 1), (1, 1, 0), [1, 0], (True, 0), (1, False), None, (1, 2), 10,
                     (1, 0, None), ((1, 0),), "10", {1: 0}):
            self.assert_calls(False, ends_hold, machine=TRAP, thing=("closed", bits, (3, 4)))
        for bits, lot in (((0,), (1, 3)), ((0, 0), (3,)), ((1,), (2, 5)), ((1, 1), (2, 5)), ((), (1, 2, 3, 5)),
                          ((0, 0), (2, 3, 5)), ((1,), (2, 3, 5))):
            closed = lot in ((3,), (2, 5), (2, 3, 5))
            self.assert_calls(closed, ends_hold, machine=TWO_TRAPS, thing=("closed", bits, lot))

    def test_lots_of_standings_alone(self):
        self.assert_calls(True, ends_hold, machine=NEVER, thing=("closed", (), (0,)))
        self.assert_calls(True, ends_hold, machine=NEVER, thing=("closed", (1, 0, 1), (0,)))
        self.assert_calls(False, ends_hold, machine=NEVER, thing=("closed", (), (False,)))
        self.assert_calls(True, ends_hold, machine=NEVER_OF_THREE, thing=("closed", (1, 0, 1), (0, 1, 2)))
        self.assert_calls(False, ends_hold, machine=NEVER_OF_THREE, thing=("closed", (), (0, 1)))
        self.assert_calls(False, ends_hold, machine=NEVER_OF_THREE, thing=("closed", (), (0, True, 2)))
        self.assert_calls(True, ends_hold, machine=LOST, thing=("closed", (1,), (2,)))
        self.assert_calls(False, ends_hold, machine=AT_ONCE, thing=("closed", (), (0,)))
        self.assert_calls(True, ends_hold, machine=AT_ONCE, thing=("sure", ((0, ()),)))
        self.assert_calls(False, ends_hold, machine=AT_ONCE, thing=("sure", ((0, (0,)),)))

    def test_certificates_of_other_machines(self):
        for one, other in product(MACHINES[:22], repeat=2):
            found = judge_ends(other)
            right = found[0] == "sure" and [at for at, _ in found[1]] == sorted(standings_reached(one))
            right = right and all([is_way_out(one, at, row) for at, row in found[1]])
            if found[0] == "closed":
                inside = found[2][-1] < len(one[1])
                right = inside and come_to(one, found[1]) in found[2] and is_closed_lot(one, found[2])
            self.assertIs(ends_hold(one, found), right)

    def test_things_that_are_no_certificates(self):
        ways = judge_ends(THIRDS_COIN)[1]
        things = JUNK + ((), "sure", ("sure",), ("sure", ()), ("sure", ways, ()), ["sure", ways], ("Sure", ways),
                         (("sure", ways),), ("sure", (ways,)), ("closed",), ("closed", ()), ("closed", (), ()),
                         ("closed", (1,), (2,), ()), ["closed", (1,), (2,)], ("closed", (2,), (1,)), (ways, "sure"),
                         ("open", (1,), (2,)), ((1,), (2,)), ("closed", ((1,), (2,))), ("sure", (1,), (2,)),
                         ("closed", ways), (None, ways), {"sure": ways}, (0, ways), (True, ways), ("", ways))
        for thing in things:
            with self.subTest(repr(thing)[:80]):
                for machine in (THIRDS_COIN, LOST, NEVER, AT_ONCE):
                    self.assert_calls(False, ends_hold, machine=machine, thing=thing)


class Chances(Case):
    """[3.4]: chances, the table that is drawn, and the mean."""

    def test_against_own_equations(self):
        for machine in MACHINES + tuple(SMALL[::3]):
            wanted, number = own_chances(machine)
            self.assert_same(chances(machine), table_of(wanted[0]))
            if is_sure(machine):
                self.assert_same(drawn_table(machine), table_of(wanted[0]))
                self.assert_fraction(mean(machine), number)

    def test_against_rows_and_tails(self):
        for machine in MACHINES:
            rest = Fraction(*tail(machine, 200))
            for chance, within in zip(chances(machine), chances_within(machine, 200)):
                self.assertLessEqual(Fraction(*within), Fraction(*chance))
                self.assertLessEqual(Fraction(*chance), Fraction(*within) + rest)

    def test_means_are_sums_of_tails(self):
        for machine in SURE_ONES:
            if tail(machine, 150) == (0, 1) or Fraction(*tail(machine, 150)) < Fraction(1, 2 ** 60):
                total = sum([Fraction(*tail(machine, t)) for t in range(151)])
                left = Fraction(*mean(machine)) - total
                self.assertGreaterEqual(left, 0)
                self.assertLess(left, Fraction(1, 2 ** 30))

    def test_edges(self):
        for machine, table, number in (
                (AT_ONCE, SURE, 0), (AT_ONCE_OF_EIGHT, ((0, 1),) * 5 + ((1, 1),) + ((0, 1),) * 2, 0),
                (COIN, HALVES, 1), (EIGHTHS, ((1, 8),) * 8, 3), (DIE_OF_SIX, ((1, 6),) * 6, Fraction(11, 3)),
                (WAITING, SURE, 2), (ANY_BIT, SURE, 1), (LATE, HALVES, 2), (TWICE, HALVES, 2),
                (UNREACHED, ((1, 2), (0, 1), (1, 2)), 1), (TRAP_APART, ((2, 3), (1, 3)), Fraction(2)),
                (chain(60), ((2 ** 58 - 1, 2 ** 58), (1, 2 ** 58)), 2 - Fraction(1, 2 ** 57)),
                (ring(60), FIRST[::-1], 2)):
            self.assert_calls(table, drawn_table, machine=machine)
            self.assert_calls(table, chances, machine=machine)
            self.assert_calls(pair(number), mean, machine=machine)

    def test_chances_of_machines_that_do_not_end(self):
        for machine, table in ((NEVER, ((0, 1),)), (NEVER_OF_THREE, ((0, 1),) * 3), (LOST, ((1, 2),)),
                               (TRAP, ((1, 2), (1, 4))), (TWO_TRAPS, ((1, 4),))):
            self.assert_calls(table, chances, machine=machine)

    def test_endless(self):
        for machine in tuple(ENDLESS) + (NEVER, LOST, TRAP):
            for call in (drawn_table, mean):
                for named in (False, True):
                    with self.assertRaises(Endless) as caught:
                        call(**{"machine": machine}) if named else call(machine)
                    certificate = caught.exception.certificate
                    self.assertEqual(list(vars(caught.exception)), ["certificate"])
                    self.assertEqual(certificate[0], "closed")
                    self.assertIs(ends_hold(machine, certificate), True)
                    self.assert_raised(Endless, {"certificate": certificate}, call, machine)


class Drawn(Case):
    """[3.4]: certificates that a machine draws a table, or does not."""

    def draws(self, machine):
        """The only certificate "draws" of a machine that ends surely, with the table that it draws."""
        found = own_chances(machine)[0]
        return ("draws", tuple([(at, table_of(found[at])) for at in sorted(found)])), table_of(found[0])

    def tables_near(self, table):
        """The table and others with as many outcomes."""
        found = [table, tuple(reversed(table)), ((1, 1),) + ((0, 1),) * (len(table) - 1),
                 ((1, len(table)),) * len(table)]
        if len(table) > 1 and table[0][0] > 0:
            numbers = [Fraction(*chance) for chance in table]
            found.append(table_of([numbers[0] / 2, numbers[1] + numbers[0] / 2] + numbers[2:]))
        return found

    def test_judged(self):
        for machine in SURE_ONES:
            certificate, drawn = self.draws(machine)
            for table in self.tables_near(drawn):
                found = judge_table(machine, table)
                self.assert_same(judge_table(machine=machine, table=table), found)
                self.assertIs(table_holds(machine, table, found), True)
                self.assertIs(table_holds(machine, table, certificate), table == drawn)
                if table == drawn:
                    self.assert_same(found, certificate)
                    continue
                word, i, t = found
                self.assertEqual(word, "over")
                self.assertGreater(Fraction(*chances_within(machine, t)[i]), Fraction(*table[i]))

    def test_all_overs(self):
        for machine in (THIRDS_COIN, TWICE, LATE, AT_ONCE_OF_EIGHT, COIN, DIE_OF_SIX, WAITING, chain(10)):
            for table in self.tables_near(drawn_table(machine)):
                for t in range(12):
                    for i, within in enumerate(chances_within(machine, t)):
                        right = Fraction(*within) > Fraction(*table[i])
                        self.assert_calls(right, table_holds, machine=machine, table=table, thing=("over", i, t))

    def test_far_overs(self):
        # The chance within t bits of the outcome 1 comes near to 2/3, by less than 1 / 2 ** t.
        near = (Fraction(1, 3) + Fraction(1, 2 ** 190), Fraction(2, 3) - Fraction(1, 2 ** 190))
        table = table_of(near)
        first = [t for t in range(300) if Fraction(*chances_within(THIRDS_COIN, t)[1]) > near[1]][0]
        for t in (0, first - 2, first - 1, first, first + 1, 200, 399, 400, 10 ** 99):
            self.assert_calls(t >= first, table_holds, machine=THIRDS_COIN, table=table, thing=("over", 1, t))
            self.assert_calls(False, table_holds, machine=THIRDS_COIN, table=table, thing=("over", 0, t))
            self.assert_calls(False, table_holds, machine=THIRDS_COIN, table=FIRST, thing=("over", 1, t))
            self.assert_calls(False, table_holds, machine=THIRDS_COIN, table=FIRST, thing=("over", 0, t))
        self.assertIs(table_holds(THIRDS_COIN, table, judge_table(THIRDS_COIN, table)), True)

    def test_rows_that_are_wrong(self):
        (word, told), table = self.draws(THIRDS_COIN)
        one, two, three, four = told
        for wrong in (
                told[1:], told[:3], told + told[3:], told[::-1], told[:1] + told, list(told), (), None, told[0], one[1],
                ((0, ((1, 2), (1, 2))),) + told[1:], ((False, one[1]),) + told[1:], (one, (True, two[1]), three, four),
                ((0, list(one[1])),) + told[1:], ([0, one[1]],) + told[1:], ((0, one[1], ()),) + told[1:],
                ((0,),) + told[1:], (one, two, (2, one[1]), four), (one, two, (2, ((4, 6), (2, 6))), four),
                (one, two, (2, ((2, 3), (1, 3), (0, 1))), four), (one, two, (2, ((2, 3),)), four),
                (one, two, (2, ((2, 3), (True, 3))), four), (one, two, (2, ([2, 3], (1, 3))), four),
                (one, (1, ((1, 1), (0, 1))), three, four), (one, (1, ((0, 1), (True, 1))), three, four),
                (one, (1, ((False, 1), (1, 1))), three, four), (one, (1, ((0, 2), (1, 1))), three, four),
                (one, (1, (0, 1)), three, four), (one, (1, None), three, four), (one, (3, two[1]), three, four),
                (one, two, three, (3, ((0, 1), (1, 1)))), (one, two, three, (4, four[1])), (one, two, 2, four),
                dict(told),
                (one, two, three, (3, ((2, 1), (-1, 1))))):
            self.assert_calls(False, table_holds, machine=THIRDS_COIN, table=table, thing=(word, wrong))
        self.assert_calls(True, table_holds, machine=THIRDS_COIN, table=table, thing=(word, told))

    def test_each_chance_otherwise(self):
        for machine in (DIE_OF_SIX, TRAP_APART, EIGHTHS, LATE):
            (word, told), table = self.draws(machine)
            for k, (at, row) in enumerate(told):
                for i, chance in enumerate(row):
                    for number in (Fraction(*chance) + Fraction(1, 7), Fraction(1, 13), Fraction(2), Fraction(-1)):
                        other = row[:i] + (pair(number),) + row[i + 1:]
                        wrong = told[:k] + ((at, other),) + told[k + 1:]
                        self.assertIs(table_holds(machine, table, (word, wrong)), False)

    def test_solutions_of_another_table(self):
        # All chances of a toss are half the sum of those of its followers, but one outcome has other ones.
        told = ((0, ((1, 2), (1, 2))), (1, ((0, 1), (1, 1))), (2, ((1, 1), (0, 1))), (3, ((3, 2), (0, 1))))
        self.assert_calls(False, table_holds, machine=THIRDS_COIN, table=HALVES, thing=("draws", told))

    def test_things_that_are_no_certificates(self):
        rows_told = judge_table(COIN, HALVES)[1]
        things = JUNK + (
            (), "draws", ("draws",), ("draws", ()), ("draws", rows_told, ()), ["draws", rows_told],
            ("Draws", rows_told),
            (("draws", rows_told),), ("over",), ("over", 0), ("over", 0, 1, 2), ["over", 0, 3], ("over", 0, -1),
            ("over", -1, 3), ("over", 2, 3), ("over", True, 3), ("over", 0, True), ("over", "0", 3), ("over", 0, "3"),
            ("over", (0,), 3), ("over", 0, (3,)), ("over", 0, None), ("over", None, 3), ("Over", 0, 3), (0, 3),
            ("over", 10 ** 99, 3), ("over", 0, -10 ** 99), ("over", (0, 3)), ("over", 0.0, 3), (None, 0, 3),
            ("over", 0, 0), ("over", 1, 3), ("within",), ("draws", 0, 3), ("over", rows_told))
        for thing in things:
            with self.subTest(repr(thing)[:80]):
                self.assert_calls(False, table_holds, machine=COIN, table=((1, 4), (3, 4)), thing=thing)
                if thing != ("over", 0, 3):
                    self.assert_calls(False, table_holds, machine=COIN, table=HALVES, thing=thing)
        self.assert_calls(True, table_holds, machine=COIN, table=((1, 4), (3, 4)), thing=("over", 0, 3))
        for i in (-1, -2, 1, 2, True):
            right = i.__class__ is int and i == 1
            self.assert_calls(right, table_holds, machine=COIN, table=((3, 4), (1, 4)), thing=("over", i, 3))
        self.assert_calls(True, table_holds, machine=COIN, table=HALVES, thing=("draws", rows_told))

    def test_machines_that_best_machine_made(self):
        for table in (FIRST, THIRDS, ((1, 2 ** 24), (2 ** 24 - 1, 2 ** 24)), ((1, 7), (2, 5), (16, 35))):
            machine = best_machine(table)
            found = judge_table(machine, table)
            self.assert_same(found, self.draws(machine)[0])
            self.assertIs(table_holds(machine, table, found), True)


class Errors(Case):
    """[0.2], "The interface": which errors are raised, in the order of the parameters."""

    def test_wrong_machines_come_first(self):
        calls = ((reached, ()), (judge_ends, ()), (does_end, ()), (chances, ()), (drawn_table, ()), (mean, ()),
                 (run, ((0, 1),)), (run, (None,)), (many_rows, (0, 1)), (many_rows, (None, None)),
                 (many_rows, (9, -1)), (chances_within, (3,)), (chances_within, (-3,)), (tail, (3,)), (tail, (True,)),
                 (ends_hold, (("sure", ()),)), (ends_hold, (None,)), (judge_table, (SURE,)), (judge_table, (None,)),
                 (table_holds, (SURE, ("over", 0, 0))), (table_holds, (((1, 2),), None)))
        for wrong in WRONG_MACHINES:
            with self.subTest(repr(wrong)[:80]):
                for call, more in calls:
                    self.assert_bad(BadMachine, wrong, call, wrong, *more)
        for wrong in WRONG_MACHINES[::4]:
            self.assert_bad(BadMachine, wrong, mean, machine=wrong)
            self.assert_bad(BadMachine, wrong, run, bits=None, machine=wrong)
            self.assert_bad(BadMachine, wrong, table_holds, thing=None, table=None, machine=wrong)

    def test_wrong_bits(self):
        for wrong in WRONG_BITS:
            with self.subTest(repr(wrong)[:80]):
                for machine in (THIRDS_COIN, AT_ONCE, NEVER):
                    self.assert_bad(BadBits, wrong, run, machine, wrong)
                    self.assert_bad(BadBits, wrong, run, machine=machine, bits=wrong)

    def test_wrong_outcomes_then_wrong_numbers(self):
        for wrong in WRONG_OUTCOMES_OF_TWO:
            with self.subTest(repr(wrong)[:80]):
                for k in (0, 3, -1, None, True):
                    self.assert_bad(BadOutcome, wrong, many_rows, THIRDS_COIN, wrong, k)
                    self.assert_bad(BadOutcome, wrong, many_rows, machine=THIRDS_COIN, i=wrong, k=k)
        for machine in (AT_ONCE, NEVER):
            self.assert_bad(BadOutcome, 1, many_rows, machine, 1, -1)
        self.assert_bad(BadOutcome, 8, many_rows, AT_ONCE_OF_EIGHT, 8, 0)
        self.assert_calls(0, many_rows, machine=AT_ONCE_OF_EIGHT, i=7, k=0)

    def test_wrong_numbers(self):
        for wrong in WRONG_NUMBERS:
            with self.subTest(repr(wrong)[:80]):
                for machine in (THIRDS_COIN, AT_ONCE, NEVER):
                    self.assert_bad(BadNumber, wrong, many_rows, machine, 0, wrong)
                    self.assert_bad(BadNumber, wrong, many_rows, machine=machine, i=0, k=wrong)
                    for call in (chances_within, tail):
                        self.assert_bad(BadNumber, wrong, call, machine, wrong)
                        self.assert_bad(BadNumber, wrong, call, machine=machine, t=wrong)

    def test_wrong_tables(self):
        for wrong in WRONG_TABLES:
            with self.subTest(repr(wrong)[:80]):
                for machine in (THIRDS_COIN, AT_ONCE, NEVER, TRAP):
                    self.assert_bad(BadTable, wrong, judge_table, machine, wrong)
                    self.assert_bad(BadTable, wrong, judge_table, machine=machine, table=wrong)
                    self.assert_bad(BadTable, wrong, table_holds, machine, wrong, None)
                    self.assert_bad(BadTable, wrong, table_holds, machine=machine, table=wrong, thing=("over", 0, 0))

    def test_other_sizes_come_ahead_of_endless(self):
        for machine, table in ((THIRDS_COIN, THIRDS), (AT_ONCE, HALVES), (NEVER, HALVES), (TRAP, SURE),
                               (NEVER_OF_THREE, ((1, 8),) * 8), (AT_ONCE_OF_EIGHT, SURE)):
            self.assert_bad(OtherSize, table, judge_table, machine, table)
            self.assert_bad(OtherSize, table, judge_table, machine=machine, table=table)
            self.assert_bad(OtherSize, table, table_holds, machine, table, None)
            self.assert_bad(OtherSize, table, table_holds, machine=machine, table=table, thing=("over", 0, 0))

    def test_endless_comes_last(self):
        for machine in ENDLESS:
            table = ((1, machine[0]),) * machine[0]
            certificate = judge_ends(machine)
            for call, more in ((judge_table, (table,)), (table_holds, (table, ("over", 0, 0))),
                               (table_holds, (table, None))):
                with self.assertRaises(Endless) as caught:
                    call(machine, *more)
                self.assertIs(ends_hold(machine, caught.exception.certificate), True)
                self.assertEqual(caught.exception.certificate[0], "closed")
            self.assertEqual(certificate[0], "closed")

    def test_what_is_passed_stays_as_it_was(self):
        for thing in ([1, [2]], {"a": [1]}, ("sure", [(0, [0])]), ("closed", [1], [2]), ("draws", [[0, [1]]])):
            self.assert_calls(False, ends_hold, machine=LOST, thing=thing)
            self.assert_calls(False, table_holds, machine=COIN, table=HALVES, thing=thing)
            self.assert_calls(False, is_machine, thing=thing)


class Sixty(Case):
    """Machines at the limits: sixty standings, of all kinds."""

    def test_sixty_standings_at_random(self):
        for n, standings in some_machines(7, 12, 60, (0.02, 0.05, 0.2)):
            machine = (n, (standings * 60)[:60])
            wanted, number = own_chances(machine)
            self.assert_same(chances(machine), table_of(wanted[0]))
            self.assertIs(ends_hold(machine, judge_ends(machine)), True)
            if does_end(machine):
                self.assert_fraction(mean(machine), number)
                table = table_of(wanted[0])
                self.assertIs(table_holds(machine, table, judge_table(machine, table)), True)

    def test_dense_ones(self):
        for many in (30, 60):
            standings = [("toss", (7 * k + 3) % many, (11 * k * k + 5) % many) for k in range(many - 2)]
            machine = (2, tuple(standings + [("out", 0), ("out", 1)]))
            wanted, number = own_chances(machine)
            self.assert_same(chances(machine), table_of(wanted[0]))
            self.assertIs(does_end(machine), is_sure(machine))
            if is_sure(machine):
                self.assert_fraction(mean(machine), number)


if __name__ == "__main__":
    unittest.main()
