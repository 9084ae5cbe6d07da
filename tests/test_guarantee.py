"""[0.3]: the guarantee, line by line, over the whole program."""

import unittest
from fractions import Fraction
from itertools import product

from coins import MACHINES, SMALL, followed, is_sure, own_chances, rows, standings_reached
from drawnbits.alike import judge_lengths, lengths_hold
from drawnbits.best import best_holds, best_machine, judge_best
from drawnbits.coder import code, way_drawn
from drawnbits.compiling import plain_machine
from drawnbits.forms import judge_programs, programs_hold
from drawnbits.leftover import row_wanted
from drawnbits.machines import chances_within, drawn_table, ends_hold, judge_ends, many_rows, table_holds, tail
from drawnbits.programs import filled, meaning
from drawnbits.registers import real_chance, way_read, written
from drawnbits.words import least_words, read, spelt
from draws import COIN, DIE, ONE, OPEN, SWAP, Source, own_places, own_size
from support import EDGE, EIGHT, HALVES, SKEW, SURE, THIRDS, UNEVEN, Case, fraction, table_of, told
from ways import MODELS, own_ways, some_way

TABLES = (SURE, HALVES, EDGE, THIRDS, ((1, 3), (2, 3)), SKEW, EIGHT, UNEVEN, ((1, 5), (2, 5), (2, 5)))


class FirstLine(Case):
    """The machine that is built draws the table with the least tails; told machines are judged."""

    def test_built_machines(self):
        for table in TABLES:
            machine = best_machine(table)
            self.assert_same(drawn_table(machine), table)
            for t in range(40):
                # What is within t bits is as much as whole 2 ** t-th parts can be.
                parts = [number * 2 ** t // 1 for number in told(table)]
                self.assert_fraction(tail(machine, t), 1 - Fraction(sum(parts), 2 ** t))
                self.assert_same(chances_within(machine, t), table_of([Fraction(part, 2 ** t) for part in parts]))

    def test_no_small_machine_is_better(self):
        for machine in [machine for machine in SMALL if is_sure(machine)]:
            best = best_machine(table_of(own_chances(machine)[0][0]))
            tails = [(fraction(tail(best, t)), fraction(tail(machine, t))) for t in range(12)]
            self.assertTrue(all([one <= other for one, other in tails]))
            found = judge_best(machine)
            self.assertIs(best_holds(machine, found), True)
            self.assertIs(found == ("best",), all([one == other for one, other in tails]))
            if found[0] == "twice":
                ends = [followed(machine, row) for row in found[1:]]
                self.assertTrue(ends[0] == ends[1] and found[1] != found[2] and len(found[1]) == len(found[2]))


class SecondLine(Case):
    """Two machines have as many rows of all lengths, or a number parts them."""

    def test_machines(self):
        several = MACHINES[:20] + MACHINES[40:60]
        for one, other in product(several, repeat=2):
            if one[0] == other[0]:
                found = judge_lengths(one, other)
                self.assertIs(lengths_hold(one, other, found), True)
                if found == ("alike",):
                    for i, k in product(range(one[0]), range(20)):
                        self.assertEqual(many_rows(one, i, k), many_rows(other, i, k))
                else:
                    _, i, k = found
                    self.assertNotEqual(many_rows(one, i, k), many_rows(other, i, k))


class ThirdLine(Case):
    """A machine ends surely, or a closed lot of standings bars it."""

    def test_machines(self):
        for machine in MACHINES + tuple(SMALL):
            found = judge_ends(machine)
            self.assertEqual(found[0], "sure" if is_sure(machine) else "closed")
            self.assertIs(ends_hold(machine, found), True)
            if found[0] == "closed":
                for at in found[2]:
                    self.assertTrue(set(machine[1][at][1:]) <= set(found[2]))
                    self.assertTrue(standings_reached(machine, at) <= set(found[2]))


class FourthLine(Case):
    """Two programs mean the same for all fillings, or fillings are told that part them."""

    def test_programs(self):
        programs = [OPEN, SWAP, COIN, ONE, ("bind", OPEN, (COIN, COIN)), ("bind", COIN, (OPEN, SWAP))]
        programs += [made for made in Source(31).programs(120, True) if own_size(made) == 2][:14]
        source = Source(32)
        for one, other in product(programs, repeat=2):
            places = dict(own_places(one) + own_places(other))
            if sorted(places.items()) != sorted(set(own_places(one) + own_places(other))):
                continue
            found = judge_programs(one, other)
            self.assertIs(programs_hold(one, other, found), True)
            both = [(name, source.table(n)) for name, n in sorted(places.items())]
            fillings = found[1] if found[0] == "fillings" else tuple(both)
            meanings = []
            for program in (one, other):
                names = dict(own_places(program))
                meanings.append(meaning(filled(program, tuple([pair for pair in fillings if pair[0] in names]))))
            self.assertIs(meanings[0] == meanings[1], found[0] == "same")


class FifthLine(Case):
    """What is written is read back; plain bits draw rows with just the told chances."""

    def test_written_and_read_back(self):
        for model in MODELS:
            way = some_way(model, 12, 3)
            bits = code(model, way)
            self.assert_same(way_drawn(model, bits, 12), (way, len(bits)))
            for w in (9, 16):
                self.assert_same(way_read(model, w, written(model, w, way), 12), way)
        for table in TABLES:
            words = least_words(table)
            row = tuple([k * k % len(table) for k in range(30)])
            self.assert_same(read(words, spelt(words, row)), (row if len(table) > 1 else (), ()))

    def test_plain_bits_in_registers(self):
        for model in MODELS[:9]:
            for k in range(3):
                self.assertEqual(sum([fraction(real_chance(model, 9, way)) for way, _, _ in own_ways(model, k)]), 1)

    def test_plain_bits(self):
        # Each way is drawn by just as many of all rows as end within it: less than two of them are missing.
        for model in MODELS[:9]:
            counts = {}
            for row in rows(10):
                found = way_drawn(model, row, 2)
                if found is not None:
                    counts[found[0]] = counts.get(found[0], 0) + 1
            for way, _, chance in own_ways(model, 2):
                self.assertTrue(chance - Fraction(2, 2 ** 10) < Fraction(counts.get(way, 0), 2 ** 10) <= chance)


class Overview(Case):
    """[0.1]: what is compiled draws what is meant; what is left over is drawn on from."""

    def test_compiled(self):
        for program in (COIN, DIE, ONE, ("bind", COIN, (DIE, ("value", 4, 3)))):
            self.assert_same(drawn_table(plain_machine(program)), meaning(program))

    def test_left_over(self):
        counts = {}
        for row in rows(10):
            outcomes, _, taken = row_wanted(4, (3, 5), row) or (None, None, None)
            counts[outcomes, taken] = counts.get((outcomes, taken), 0) + 1
        for taken in range(11):
            many = [counts.get(((a, b), taken), 0) for a, b in product(range(3), range(5))]
            self.assertEqual(len(set(many)), 1)

    def test_certificates_of_tables(self):
        for table in TABLES:
            machine = best_machine(table)
            for other in TABLES:
                if len(other) == len(table):
                    self.assertIs(table_holds(machine, other, ("draws", ())), False)


if __name__ == "__main__":
    unittest.main()
