"""Part 5: machines that run the same, are alike in lengths, or in chances."""

import unittest
from itertools import product
from math import gcd

from coins import (ANY_BIT, AT_ONCE, AT_ONCE_OF_EIGHT, COIN, DIE_OF_SIX, EIGHTHS, LATE, LOST, MACHINES, NEVER,
                   NEVER_OF_THREE, SAME_FOLLOWERS, SIXTY, SMALL, THIRDS_COIN, TRAP, TRAP_APART, TURNED, TWICE,
                   TWO_TRAPS, UNREACHED, WAITING, WRONG_BITS, WRONG_MACHINES, all_machines, chain, followed, numbers,
                   own_chances, ring, rows, standings_reached)
from drawnbits.alike import are_alike, folded, judge_lengths, judge_runs, lengths_hold, runs_hold
from drawnbits.best import best_machine
from drawnbits.errors import BadMachine, OtherSize
from drawnbits.machines import chances, is_machine, many_rows
from support import JUNK, SKEW, THIRDS, UNEVEN, Case

CALLS = (judge_runs, judge_lengths, are_alike)
HOLDING = (runs_hold, lengths_hold)
UNFOLDED = (2, (("toss", 1, 2), ("toss", 3, 4), ("toss", 3, 4), ("out", 0), ("out", 1)))
PAIRS = [(one, other) for one, other in product(MACHINES[:24] + tuple(MACHINES[40:56]), repeat=2) if one[0] == other[0]]


def shortest_rows(machine):
    """The first of the shortest rows to each standing, by making rows shorter or lesser until none can be."""
    found = {0: ()}
    while True:
        before = dict(found)
        for at, row in before.items():
            if machine[1][at][0] == "toss":
                for bit, after in enumerate(machine[1][at][1:]):
                    told = found.get(after)
                    if told is None or (len(row) + 1, row + (bit,)) < (len(told), told):
                        found[after] = row + (bit,)
        if before == found:
            return found


def unlike_standings(one, other):
    """All pairs of standings of two machines from which some row runs otherwise, by marking pairs until none is new."""
    marked = set()
    while True:
        many = len(marked)
        for a, b in product(range(len(one[1])), range(len(other[1]))):
            first, second = one[1][a], other[1][b]
            if first[0] == "out" or second[0] == "out":
                if first != second:
                    marked.add((a, b))
            elif [pair for pair in zip(first[1:], second[1:]) if pair in marked]:
                marked.add((a, b))
        if many == len(marked):
            return marked


def behaviour(machine, k):
    """The runs of all rows of k bits."""
    return tuple([followed(machine, row) for row in rows(k)])


def shuffled(machine, step):
    """The machine with its standings called otherwise, in steps without a common part with their number less 1."""
    n, standings = machine
    many = len(standings)
    places = [0] + [1 + (k * step) % (many - 1) for k in range(many - 1)]
    found = [None] * many
    for at, standing in enumerate(standings):
        if standing[0] == "toss":
            standing = ("toss", places[standing[1]], places[standing[2]])
        found[places[at]] = standing
    return (n, tuple(found))


class Examples(Case):
    """The examples of drawnbits/alike.py, as the document has them."""

    def test_all(self):
        self.assert_same(
            [folded(UNFOLDED) == TWICE, runs_hold(TWICE, LATE, ('bits', (0,))),
             judge_runs(TWICE, TWICE) == ('same', TWICE), judge_lengths(THIRDS_COIN, TURNED),
             judge_runs(THIRDS_COIN, TURNED)[0], lengths_hold(TWICE, LATE, ('length', 0, 1)), are_alike(TWICE, LATE)],
            [True, True, True, ('alike',), 'bits', True, True])


class Folded(Case):
    """[5.1]: folded machines."""

    def check_folded(self, machine):
        found = folded(machine)
        self.assertIs(is_machine(found), True)
        self.assertEqual(found[0], machine[0])
        self.assertNotIn((0, 0), unlike_standings(machine, found))
        places = range(len(found[1]))
        self.assertEqual(standings_reached(found), set(places))
        # Two unlike standings run otherwise.
        unlike = unlike_standings(found, found)
        self.assertEqual(unlike, {(a, b) for a, b in product(places, repeat=2) if a != b})
        told = shortest_rows(found)
        self.assertEqual(sorted(places, key=lambda at: (len(told[at]), told[at])), list(places))
        return found

    def test_small_ones(self):
        for machine in SMALL[::3]:
            self.check_folded(machine)

    def test_others(self):
        for machine in MACHINES:
            found = self.check_folded(machine)
            self.assert_calls(found, folded, machine=machine)
            self.assert_calls(found, folded, machine=found)

    def test_just_those_that_run_the_same_are_folded_to_one(self):
        groups = {}
        for machine in all_machines(2, 3) + all_machines(2, 2) + all_machines(2, 1):
            # Two machines of at most 3 standings that run unlike do so on a row of at most 5 bits.
            groups.setdefault(behaviour(machine, 5), set()).add(folded(machine))
        self.assertEqual([len(group) for group in groups.values()], [1] * len(groups))
        machines = [list(group)[0] for group in groups.values()]
        self.assertEqual(len(machines), len(set(machines)))
        self.assertEqual(max([len(machine[1]) for machine in machines]), 3)

    def test_known(self):
        for machine, wanted in (
                (AT_ONCE, AT_ONCE), (AT_ONCE_OF_EIGHT, AT_ONCE_OF_EIGHT), (NEVER, NEVER),
                (NEVER_OF_THREE, (3, (("toss", 0, 0),))), (UNFOLDED, TWICE), (LOST, LOST), (EIGHTHS, EIGHTHS),
                (TRAP, (2, (("toss", 1, 2), ("out", 0), ("toss", 3, 4), ("toss", 3, 3), ("out", 1)))),
                (TRAP_APART, (2, (("toss", 1, 2), ("out", 0), ("toss", 0, 3), ("out", 1)))),
                (TWO_TRAPS, (1, (("toss", 1, 2), ("toss", 2, 3), ("toss", 2, 2), ("out", 0)))),
                (UNREACHED, (3, (("toss", 1, 2), ("out", 0), ("out", 2)))),
                (SAME_FOLLOWERS, (2, (("toss", 1, 1), ("toss", 2, 2), ("toss", 3, 4), ("out", 1), ("out", 0)))),
                (TURNED, (2, (("toss", 1, 2), ("toss", 3, 0), ("out", 1), ("out", 0)))),
                (ring(60), (2, (("toss", 1, 2), ("out", 0), ("toss", 3, 0), ("out", 1)))),
                ((2, (("toss", 1, 1), ("out", 1), ("out", 1))), (2, (("toss", 1, 1), ("out", 1)))),
                ((1, (("toss", 1, 2), ("toss", 0, 2), ("out", 0))), (1, (("toss", 0, 1), ("out", 0)))),
                ((1, (("out", 0), ("toss", 0, 1))), AT_ONCE)):
            self.assert_calls(wanted, folded, machine=machine)

    def test_called_otherwise(self):
        for machine in MACHINES:
            for step in (2, 3, 7, len(machine[1]) - 2):
                if gcd(step, len(machine[1]) - 1) == 1:
                    self.assert_same(folded(shuffled(machine, step)), folded(machine))

    def test_chain_of_sixty(self):
        found = folded(chain(60))
        self.assertEqual(len(found[1]), 60)
        self.assert_same(found[1][:3], (("toss", 1, 2), ("out", 0), ("toss", 1, 3)))
        self.assert_same(found[1][57:], (("toss", 1, 58), ("toss", 1, 59), ("out", 1)))

    def test_best_machines(self):
        for table in (THIRDS, SKEW, UNEVEN):
            machine = best_machine(table)
            found = folded(machine)
            self.assertNotIn((0, 0), unlike_standings(machine, found))
            self.assert_same(folded(found), found)


class Runs(Case):
    """[5.1]: certificates that two machines run the same, or do not."""

    def check_pair(self, one, other):
        found = judge_runs(one, other)
        if (0, 0) in unlike_standings(one, other):
            self.assertEqual(found[0], "bits")
            self.assertEqual(len(found), 2)
            self.assertNotEqual(followed(one, found[1]), followed(other, found[1]))
        else:
            self.assert_same(found, ("same", folded(one)))
            self.assert_same(found, ("same", folded(other)))
        self.assertIs(runs_hold(one, other, found), True)
        self.assertIs(runs_hold(other, one, found), True)
        return found

    def test_small_ones(self):
        machines = all_machines(2, 1) + all_machines(2, 2)[::2] + all_machines(2, 3)[::41]
        for one, other in product(machines, repeat=2):
            self.check_pair(one, other)

    def test_others(self):
        for one, other in PAIRS:
            found = self.check_pair(one, other)
            self.assert_calls(found, judge_runs, one=one, other=other)
            self.assert_calls(True, runs_hold, one=one, other=other, thing=found)

    def test_a_difference_at_the_last_bit(self):
        standings = chain(60)[1]
        other = (2, standings[:57] + (("toss", 59, 58),) + standings[58:])
        found = self.check_pair(chain(60), other)
        self.assert_same(found[1][:57], (1,) * 57)
        self.assertEqual(len(found[1]), 58)
        self.assertIs(runs_hold(chain(60), other, ("bits", (1,) * 57)), False)
        self.assertIs(runs_hold(chain(60), other, ("bits", (1,) * 58)), True)
        self.assertIs(runs_hold(chain(60), other, ("bits", (1,) * 400)), True)
        self.assertIs(runs_hold(chain(60), other, ("bits", (1,) * 56 + (0,) * 344)), False)
        self.check_pair(chain(60), ring(60))
        self.check_pair(SIXTY[0], folded(SIXTY[0]))

    def test_all_short_bits(self):
        machines = (THIRDS_COIN, TURNED, LATE, TWICE, COIN, TRAP, TRAP_APART, SAME_FOLLOWERS, chain(10))
        for one, other in product(machines, repeat=2):
            for k in range(6):
                for row in rows(k):
                    right = followed(one, row) != followed(other, row)
                    self.assertIs(runs_hold(one, other, ("bits", row)), right)

    def test_same_only_with_the_folded_machine_of_both(self):
        twins = (UNFOLDED, TWICE)
        for one, other in product(twins, repeat=2):
            self.assert_calls(True, runs_hold, one=one, other=other, thing=("same", TWICE))
            for wrong in (UNFOLDED, LATE, COIN, (2, (("toss", 1, 1), ("toss", 3, 2), ("out", 1), ("out", 0))),
                          (2, (("toss", 1, 1), ("toss", 2, 3), ("out", 0), ("out", True))), list(TWICE),
                          (2, (("toss", True, 1), ("toss", 2, 3), ("out", 0), ("out", 1))),
                          (2, (("toss", 1, 1), ("toss", 2, 3), ("out", False), ("out", 1))),
                          (2, list(TWICE[1])), (2, TWICE[1] + (("out", 0),)), (3, TWICE[1]), TWICE[1], (2, TWICE[1], 0),
                          (2, (["toss", 1, 1],) + TWICE[1][1:]), (2,), None, ("same", TWICE), (2.0, TWICE[1])):
                self.assert_calls(False, runs_hold, one=one, other=other, thing=("same", wrong))
        self.assert_calls(False, runs_hold, one=TWICE, other=LATE, thing=("same", TWICE))
        self.assert_calls(False, runs_hold, one=TWICE, other=LATE, thing=("same", LATE))
        self.assert_calls(False, runs_hold, one=LATE, other=TWICE, thing=("same", TWICE))
        # An order in which the standings are not first reached: the ones from 1 on are exchanged.
        short = folded(THIRDS_COIN)
        turned = (2, (("toss", 2, 1), ("toss", 3, 0), ("out", 1), ("out", 0)))
        self.assert_calls(True, runs_hold, one=THIRDS_COIN, other=turned, thing=("same", short))
        self.assert_calls(False, runs_hold, one=THIRDS_COIN, other=turned, thing=("same", turned))
        for one in (NEVER_OF_THREE, (3, (("toss", 1, 0), ("toss", 0, 1)))):
            self.assert_calls(True, runs_hold, one=one, other=NEVER_OF_THREE, thing=("same", (3, (("toss", 0, 0),))))
            self.assert_calls(False, runs_hold, one=one, other=NEVER_OF_THREE, thing=("same", one))
            self.assert_calls(False, runs_hold, one=one, other=NEVER_OF_THREE, thing=("same", (1, (("toss", 0, 0),))))

    def test_things_that_are_no_certificates(self):
        things = JUNK + (
            (), "same", ("same",), ("same", ()), ("same", LATE, LATE), ["same", LATE], ("Same", LATE),
            (("same", LATE),), ("same", (LATE,)), "bits", ("bits",), ("bits", 0), ("bits", None), ("bits", [0]), ("bits", (2,)),
            ("bits", (False,)), ("bits", (0,), ()), ["bits", (0,)], ("Bits", (0,)), (("bits", (0,)),), ("bits", "0"),
            ("bits", ((0,),)), ("bits", ()), (LATE, "same"), {"same": LATE}, ("alike",), ("bits", LATE), (0, (0,)),
            ("same", (0,)), (None, LATE), (True, LATE))
        for thing in things:
            with self.subTest(repr(thing)[:80]):
                self.assert_calls(False, runs_hold, one=TWICE, other=LATE, thing=thing)
                self.assert_calls(False, runs_hold, one=TWICE, other=TWICE, thing=thing)
        for wrong in WRONG_BITS:
            self.assert_calls(False, runs_hold, one=AT_ONCE, other=NEVER, thing=("bits", wrong))
        for right in ((), (0,), (1, 0) * 200):
            self.assert_calls(True, runs_hold, one=AT_ONCE, other=NEVER, thing=("bits", right))


class Lengths(Case):
    """[5.2]: certificates that two machines are alike in lengths, or are not."""

    def check_pair(self, one, other, counts):
        """Judged as the numbers of rows say that are told for all lengths that can be asked for."""
        found = judge_lengths(one, other)
        first, second = counts
        if first == second:
            self.assert_same(found, ("alike",))
        else:
            word, i, k = found
            self.assertEqual(word, "length")
            self.assertNotEqual(first[k][i], second[k][i])
        self.assertIs(lengths_hold(one, other, found), True)
        self.assertIs(lengths_hold(one, other, ("alike",)), first == second)
        return found

    def test_small_ones(self):
        machines = all_machines(2, 1) + all_machines(2, 2)[::2] + all_machines(2, 3)[::41]
        told = {machine: numbers(machine, 5) for machine in machines}
        for one, other in product(machines, repeat=2):
            self.check_pair(one, other, (told[one], told[other]))

    def own_counts(self, machine, most):
        """For each length the numbers of rows of each outcome, by halving chances that go from standing to standing."""
        found, there = [], {0: 1}
        for _ in range(most + 1):
            found.append([sum([many for at, many in there.items() if machine[1][at] == ("out", i)])
                          for i in range(machine[0])])
            later = {}
            for at, many in there.items():
                for after in machine[1][at][1:] if machine[1][at][0] == "toss" else ():
                    later[after] = later.get(after, 0) + many
            there = later
        return found

    def test_others(self):
        for one, other in PAIRS:
            most = len(one[1]) + len(other[1])
            found = self.check_pair(one, other, (self.own_counts(one, most), self.own_counts(other, most)))
            self.assert_calls(found, judge_lengths, one=one, other=other)
            self.assert_calls(True, lengths_hold, one=one, other=other, thing=found)

    def test_all_lengths(self):
        machines = (THIRDS_COIN, TURNED, LATE, TWICE, COIN, TRAP, TRAP_APART, SAME_FOLLOWERS, chain(10), ring(9))
        for one, other in product(machines, repeat=2):
            for k in list(range(12)) + [58, 199, 200]:
                for i in range(2):
                    right = many_rows(one, i, k) != many_rows(other, i, k)
                    self.assert_calls(right, lengths_hold, one=one, other=other, thing=("length", i, k))

    def test_a_difference_at_a_great_length(self):
        standings = chain(60)[1]
        other = (2, standings[:57] + (("toss", 58, 58),) + standings[58:])
        self.assertEqual(judge_lengths(chain(60), other)[2], 58)
        for k in (0, 1, 57, 58, 59, 200):
            for i in range(2):
                self.assert_calls(k == 58, lengths_hold, one=chain(60), other=other, thing=("length", i, k))
        self.assert_calls(False, lengths_hold, one=ring(60), other=ring(60), thing=("length", 0, 10 ** 99))
        turned = (2, standings[:57] + (("toss", 59, 58),) + standings[58:])
        self.assert_calls(("alike",), judge_lengths, one=chain(60), other=turned)
        self.assertEqual(judge_runs(chain(60), turned)[0], "bits")

    def test_a_difference_at_the_last_length_that_must_be_asked_for(self):
        # The rounds of m and m + 1 tosses end at 1 once in each round, at its last toss, otherwise not at all.
        for many in (2, 5, 29):
            pair = []
            for size in (many, many + 1):
                tosses = [("toss", k + 1, size + 1) for k in range(size - 1)] + [("toss", 0, size)]
                pair.append((1, tuple(tosses + [("out", 0), ("toss", size + 1, size + 1)])))
            one, other = pair
            first = [k for k in range(200) if self.own_counts(one, 200)[k] != self.own_counts(other, 200)[k]][0]
            self.assert_calls(("length", 0, first), judge_lengths, one=one, other=other)
            self.assertEqual(first, many)

    def test_lengths_of_zero(self):
        self.assert_calls(("length", 0, 0), judge_lengths, one=AT_ONCE, other=NEVER)
        self.assert_calls(True, lengths_hold, one=AT_ONCE, other=ANY_BIT, thing=("length", 0, 0))
        self.assert_calls(True, lengths_hold, one=AT_ONCE, other=ANY_BIT, thing=("length", 0, 1))
        self.assert_calls(False, lengths_hold, one=AT_ONCE, other=ANY_BIT, thing=("length", 0, 2))
        self.assert_calls(False, lengths_hold, one=AT_ONCE, other=WAITING, thing=("alike",))

    def test_all_best_machines_of_a_table_are_alike(self):
        for machine in (THIRDS_COIN, TURNED, COIN, DIE_OF_SIX, EIGHTHS, chain(10), AT_ONCE_OF_EIGHT, ring(60)):
            other = best_machine(chances(machine))
            self.assert_calls(("alike",), judge_lengths, one=machine, other=other)
            self.assert_calls(True, are_alike, one=other, other=machine)

    def test_things_that_are_no_certificates(self):
        things = JUNK + (
            (), "alike", ("alike", ()), ["alike"], ("Alike",), (("alike",),), ("alike", "alike"), ("alike", 0, 1),
            ("length",), ("length", 0), ("length", 0, 1, 0), ["length", 0, 1], ("Length", 0, 1), (("length", 0, 1),),
            ("length", False, 1), ("length", 0, True), ("length", 0, -1), ("length", -1, 1), ("length", 2, 1),
            ("length", "0", 1), ("length", 0, "1"), ("length", (0,), 1), ("length", 0, (1,)), ("length", 0, None),
            ("length", None, 1), ("length", 10 ** 99, 1), ("length", -2, 1), ("length", 0, -10 ** 99), (0, 0, 1),
            ("length", -1, 2), ("length", 0.0, 1), ("length", 0, 1.0), ("length", (0, 1)), ("length", 0, 0),
            ("length", [0], 1),
            {"alike": 0}, (None, 0, 1), ("over", 0, 1), ("same", TWICE))
        for thing in things:
            with self.subTest(repr(thing)[:80]):
                self.assert_calls(False, lengths_hold, one=TWICE, other=LATE, thing=thing)
                self.assert_calls(False, lengths_hold, one=TWICE, other=TWICE, thing=thing)
        self.assert_calls(True, lengths_hold, one=TWICE, other=LATE, thing=("length", 0, 1))
        self.assert_calls(False, lengths_hold, one=TWICE, other=TWICE, thing=("length", 0, 1))


class Chances(Case):
    """[5.3]: machines alike in chances."""

    def test_pairs(self):
        for one, other in PAIRS:
            right = own_chances(one)[0][0] == own_chances(other)[0][0]
            self.assert_calls(right, are_alike, one=one, other=other)

    def test_alike_in_runs_then_in_lengths_then_in_chances(self):
        for one, other in list(product(SMALL[2::59], repeat=2)) + PAIRS:
            if one[0] == other[0]:
                same = judge_runs(one, other)[0] == "same"
                lengths = judge_lengths(one, other) == ("alike",)
                self.assertLessEqual(same, lengths)
                self.assertLessEqual(lengths, are_alike(one, other))

    def test_machines_that_do_not_end(self):
        half = (1, (("toss", 1, 2), ("toss", 0, 0), ("toss", 3, 4), ("out", 0), ("toss", 0, 0)))
        self.assert_calls(True, are_alike, one=LOST, other=(1, (("toss", 2, 1), ("out", 0), ("toss", 2, 2))))
        self.assert_calls(False, are_alike, one=LOST, other=TWO_TRAPS)
        self.assert_calls(False, are_alike, one=LOST, other=AT_ONCE)
        self.assert_calls(True, are_alike, one=half, other=AT_ONCE)
        self.assert_calls(False, are_alike, one=TRAP, other=TRAP_APART)


class Errors(Case):
    """[0.2], "The interface": which errors are raised, in the order of the parameters."""

    def test_wrong_machines(self):
        for wrong in WRONG_MACHINES:
            with self.subTest(repr(wrong)[:80]):
                self.assert_bad(BadMachine, wrong, folded, wrong)
                self.assert_bad(BadMachine, wrong, folded, machine=wrong)
                for call, more in [(call, ()) for call in CALLS] + [(call, (None,)) for call in HOLDING]:
                    self.assert_bad(BadMachine, wrong, call, wrong, COIN, *more)
                    self.assert_bad(BadMachine, wrong, call, wrong, AT_ONCE_OF_EIGHT, *more)
                    self.assert_bad(BadMachine, wrong, call, COIN, wrong, *more)
                    self.assert_bad(BadMachine, wrong, call, wrong, None, *more)
                    self.assert_bad(BadMachine, None, call, None, wrong, *more)
        for call in CALLS:
            self.assert_bad(BadMachine, (1, ()), call, other=None, one=(1, ()))
            self.assert_bad(BadMachine, (1, ()), call, other=(1, ()), one=COIN)

    def test_other_sizes(self):
        for one, other in ((COIN, AT_ONCE), (AT_ONCE, COIN), (NEVER, NEVER_OF_THREE), (AT_ONCE_OF_EIGHT, DIE_OF_SIX),
                           (THIRDS_COIN, (3, THIRDS_COIN[1]))):
            for call in CALLS:
                self.assert_bad(OtherSize, other, call, one, other)
                self.assert_bad(OtherSize, other, call, one=one, other=other)
            for thing in (None, ("alike",), ("same", one)):
                for call in HOLDING:
                    self.assert_bad(OtherSize, other, call, one, other, thing)
                    self.assert_raised(OtherSize, {"thing": other}, call, one=one, other=other, thing=thing)

    def test_what_is_passed_stays_as_it_was(self):
        for thing in (["same", [2, [("out", 0)]]], ("same", [2, []]), ("bits", [0, 1]), ("length", [0], [1]),
                      {"a": []}):
            for call in HOLDING:
                self.assert_calls(False, call, one=TWICE, other=LATE, thing=thing)


if __name__ == "__main__":
    unittest.main()
