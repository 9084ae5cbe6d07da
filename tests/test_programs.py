"""Part 6: programs, their meanings, filled and worked out."""

import unittest
from itertools import combinations, product

from draws import (ALL_CLOSED, ALL_OPEN, BOTH, COIN, DIE, LEFT, MANY_OPEN, ONE, OPEN, PROGRAMS, SWAP, THREE,
                   WRONG_PROGRAMS, Source, nested, own_meaning, own_places, own_size, parts, sized)
from drawnbits.errors import BadFillings, BadProgram
from drawnbits.programs import filled, is_closed, is_program, meaning, outcomes_of, places_of, worked_out
from support import (EDGE, EIGHT, HALVES, JUNK, LONG, SKEW, SURE, TABLES, THIRDS, UNEVEN, WRONG_TABLES, Case,
                     table_of)

CALLS = (outcomes_of, places_of, is_closed, meaning, worked_out)


def own_worked_out(program):
    """A program worked out, part by part as [6.5] tells it."""
    if not own_places(program):
        return ("draw", table_of(own_meaning(program, {})))
    if program[0] == "place":
        return program
    inner = own_worked_out(program[1])
    if program[0] == "map":
        in_order = list(program[2]) == list(range(program[3]))
        return inner if in_order else ("map", inner) + program[2:]
    cases = [own_worked_out(part) for part in program[2]]
    if cases.count(cases[0]) == len(cases):
        return cases[0]
    for i, case in enumerate(cases):
        if inner[0] == "draw" and inner[1][i] == (1, 1):
            return case
    return ("bind", inner, tuple(cases))


class Examples(Case):
    """The examples of drawnbits/programs.py, as the document has them."""

    def test_all(self):
        self.assert_same(
            [is_program(('value', 2, 2)), outcomes_of(DIE), meaning(DIE), places_of(('bind', OPEN, (COIN, OPEN))),
             filled(OPEN, ((0, ((1, 3), (2, 3))),)), worked_out(('bind', OPEN, (COIN, ('map', COIN, (1, 0), 2))))],
            [False, 4, ((1, 3), (1, 3), (1, 3), (0, 1)), ((0, 2),), ('draw', ((1, 3), (2, 3))),
             ('draw', ((1, 2), (1, 2)))])


class Programs(Case):
    """[6.1]: what programs are, and what stands in them."""

    def test_right_programs(self):
        for program in PROGRAMS:
            self.assert_calls(True, is_program, thing=program)
            self.assert_calls(own_size(program), outcomes_of, program=program)
            self.assert_calls(tuple(own_places(program)), places_of, program=program)
            self.assert_calls(not own_places(program), is_closed, program=program)

    def test_wrong_values(self):
        for thing in WRONG_PROGRAMS:
            with self.subTest(repr(thing)[:80]):
                self.assert_calls(False, is_program, thing=thing)

    def test_wrong_values_within(self):
        for thing in WRONG_PROGRAMS:
            for whole in (("bind", COIN, (ONE, thing)), ("bind", thing, (ONE, ONE)), ("map", thing, (0, 0), 2),
                          ("map", ("map", ("bind", COIN, (thing, COIN)), (0, 1), 2), (0, 1), 2), ("again", thing, (1,)),
                          ("bind", COIN, (thing, thing))):
                self.assertIs(is_program(whole), False)

    def test_all_values_and_places(self):
        for n, v in product(range(-1, 11), repeat=2):
            self.assertIs(is_program(("value", n, v)), 1 <= n <= 8 and 0 <= v < n)
            self.assertIs(is_program(("place", v, n)), 1 <= n <= 8 and 0 <= v < 4)

    def test_all_draws(self):
        for table in TABLES:
            self.assert_calls(True, is_program, thing=("draw", table))
            self.assert_calls(len(table), outcomes_of, program=("draw", table))

    def test_numbers_of_cases(self):
        for many, n, told_cases in product(range(1, 9), (1, 2, 8), range(10)):
            program = ("bind", ("value", many, 0), (("value", n, 0),) * told_cases)
            self.assertIs(is_program(program), many == told_cases)
            if many == told_cases:
                self.assertEqual(outcomes_of(program), n)
            other = ("bind", ("place", 0, many), (("value", n, 0),) * (told_cases - 1) + (("value", 3, 0),))
            self.assertIs(is_program(other), many == max(told_cases, 1) and many == 1)

    def test_all_lots(self):
        for table in (SKEW, THIRDS, EDGE, SURE, UNEVEN):
            for k in range(len(table) + 1):
                for lot in combinations(range(len(table)), k):
                    right = any([table[v][0] > 0 for v in lot])
                    self.assertIs(is_program(("again", ("draw", table), lot)), right)

    def test_lots_that_come_only_by_a_case(self):
        inner = ("bind", ("draw", EDGE), (("value", 3, 0), ("draw", ((1, 2), (1, 2), (0, 1)))))
        for lot, right in (((0,), True), ((1,), True), ((2,), False), ((0, 2), True), ((), False), ((0, 1, 2), True)):
            self.assert_calls(right, is_program, thing=("again", inner, lot))

    def test_all_names(self):
        for n in range(1, 9):
            for names in product((0, 1, n - 1, n), repeat=2):
                self.assertIs(is_program(("map", COIN, names, n)), max(names) < n)

    def test_forty_parts(self):
        for many in range(10, 60):
            program = sized(many)
            self.assertEqual(len(parts(program)), many)
            self.assert_calls(many <= 40, is_program, thing=program)
        self.assertIs(is_program(("map", sized(39), (0, 1), 2)), True)
        self.assertIs(is_program(("map", sized(40), (0, 1), 2)), False)
        self.assertIs(is_program(("bind", sized(19), (sized(19), ONE))), True)
        self.assertIs(is_program(("bind", sized(19), (sized(19), ("map", COIN, (0, 0), 2)))), False)
        self.assertIs(is_program(("again", sized(39), (1,))), True)
        self.assertIs(is_program(("again", sized(40), (1,))), False)

    def test_eight_deep(self):
        for kind, inner in product(("map", "again", "bind", "case"), (COIN, ONE, OPEN)):
            for many in range(12):
                program = nested(many, inner, kind)
                right = many <= 7 and not (kind == "again" and inner == OPEN and many > 0)
                if kind == "again" and inner == ONE:
                    right = many <= 7
                self.assert_calls(right, is_program, thing=program)
                if right:
                    self.assertEqual(max([deep for _, deep in parts(program)]), many + 1)
        self.assertIs(is_program(("bind", COIN, (COIN, nested(6, COIN, "map")))), True)
        self.assertIs(is_program(("bind", COIN, (COIN, nested(7, COIN, "map")))), False)
        self.assertIs(is_program(("bind", nested(7, COIN, "case"), (COIN, COIN))), False)

    def test_very_many_parts_are_soon_refused(self):
        wide = COIN
        for _ in range(7):
            wide = ("bind", ("draw", EIGHT), (wide,) * 8)
        self.assertIs(is_program(wide), False)
        self.assertIs(is_program(("bind", COIN, (COIN,) * 1900)), False)

    def test_places_of_one_name(self):
        for one, other in product(range(1, 9), repeat=2):
            program = ("map", ("bind", ("place", 1, one), (("place", 1, other),) * one), (0,) * other, 1)
            self.assertIs(is_program(program), one == other)
            program = ("map", ("bind", ("place", 1, one), (("place", 2, other),) * one), (0,) * other, 1)
            self.assertIs(is_program(program), True)
            self.assert_same(places_of(program), ((1, one), (2, other)))

    def test_places_known(self):
        self.assert_calls(((0, 2), (1, 1), (3, 3)), places_of, program=MANY_OPEN)
        self.assert_calls((), places_of, program=DIE)
        self.assert_calls(((0, 2),), places_of, program=BOTH)


class Meanings(Case):
    """[6.2]: meanings and fillings."""

    def test_meanings(self):
        for program in ALL_CLOSED:
            self.assert_calls(table_of(own_meaning(program, {})), meaning, program=program)

    def test_known(self):
        twice = ("bind", COIN, (COIN, COIN))
        for program, table in (
                (("value", 3, 1), ((0, 1), (1, 1), (0, 1))), (("value", 1, 0), SURE), (("draw", UNEVEN), UNEVEN),
                (DIE, ((1, 3), (1, 3), (1, 3), (0, 1))), (twice, HALVES), (("again", COIN, (1,)), EDGE),
                (("again", COIN, (0, 1)), HALVES),
                (("again", ("draw", SKEW), (0, 1, 3)), ((1, 3), (0, 1), (0, 1), (2, 3))),
                (("map", ("draw", THIRDS), (1, 1, 0), 3), ((1, 3), (2, 3), (0, 1))),
                (("map", COIN, (7, 7), 8), ((0, 1),) * 7 + ((1, 1),)), (("bind", ("draw", EDGE), (COIN, ONE)), EDGE),
                (("bind", ("draw", LEFT), (("draw", LEFT), ("draw", LEFT[::-1]))), ((5, 9), (4, 9))),
                (("bind", ("value", 2, 0), (("draw", LONG), COIN)), LONG),
                (("again", ("value", 2, 1), (1,)), EDGE), (nested(7, ("draw", LEFT), "map"), LEFT[::-1])):
            self.assert_calls(table, meaning, program=program)

    def test_open_programs_have_none(self):
        for program in ALL_OPEN:
            self.assert_bad(BadProgram, program, meaning, program)
            self.assert_bad(BadProgram, program, meaning, program=program)

    def test_filled(self):
        source = Source(3)
        for program in PROGRAMS:
            fillings = source.fillings(program)
            found = filled(program, fillings)
            self.assert_calls(found, filled, program=program, fillings=fillings)
            self.assertIs(is_closed(found), True)
            self.assertEqual(outcomes_of(found), outcomes_of(program))
            tables = dict(fillings)
            wanted = [("draw", tables[part[1]]) if part[0] == "place" else part for part, _ in parts(program)]
            for one, (other, _) in zip(wanted, parts(found)):
                self.assertEqual(one[0], other[0])
                if one[0] in ("draw", "value", "again"):
                    self.assert_same(one, other)
                if one[0] == "map":
                    self.assert_same(one[2:], other[2:])
            self.assertEqual(len(wanted), len(parts(found)))
            self.assert_same(meaning(found), table_of(own_meaning(program, tables)))

    def test_filled_known(self):
        third = ((0, LEFT),)
        self.assert_calls(("draw", LEFT), filled, program=OPEN, fillings=third)
        self.assert_calls(("map", ("draw", LEFT), (1, 0), 2), filled, program=SWAP, fillings=third)
        self.assert_calls(("bind", ("draw", LEFT), (("draw", LEFT), ONE)), filled, program=BOTH, fillings=third)
        self.assert_calls(DIE, filled, program=DIE, fillings=())
        fillings = ((0, LEFT), (1, SURE), (3, THIRDS))
        wanted = ("bind", ("draw", THIRDS), (("draw", LEFT), ("map", ("draw", LEFT), (1, 0), 2), ("bind", (
            "draw", SURE), (("map", ("draw", THIRDS), (1, 0, 1), 2),))))
        self.assert_calls(wanted, filled, program=MANY_OPEN, fillings=fillings)

    def test_a_place_that_is_come_to_twice_is_drawn_anew(self):
        self.assert_same(meaning(filled(BOTH, ((0, LEFT),))), ((1, 9), (8, 9)))
        twice = ("bind", OPEN, (("map", OPEN, (0, 1), 3), ("map", OPEN, (1, 2), 3)))
        self.assert_same(meaning(filled(twice, ((0, LEFT),))), ((1, 9), (4, 9), (4, 9)))

    def test_wrong_fillings(self):
        right = ((0, LEFT), (1, SURE), (3, THIRDS))
        one, two, three = right
        things = JUNK + (
            0, 1, (), None, (one,), (one, two), right[1:], right[::-1], (two, one, three), right + ((3, THIRDS),),
            right + ((2, SURE),), (one, one, two, three), (one, two, (2, THIRDS)), (one, two, three, ()), list(right),
            ((0, THIRDS), two, three), ((0, SURE), two, three), (one, two, (3, HALVES)), (one, (1, HALVES), three),
            ((False, LEFT), two, three), (one, (True, SURE), three), ([0, LEFT], two, three), ((0,), two, three),
            ((0, LEFT, 0), two, three), ((0, list(LEFT)), two, three), ((0, ((1, 3), (2, 4))), two, three),
            ((0, ((1, 3), (1, 3))), two, three), ((0, None), two, three), (None, two, three), (0, two, three),
            (("0", LEFT), two, three), ((0, ("draw", LEFT)), two, three), dict(right), (right,),
            ((LEFT, 0), two, three),
            (one, (1, ((True, 1),)), three), ((0, OPEN), two, three), ((-1, LEFT), two, three),
            (one, two, (4, THIRDS)))
        for thing in things:
            with self.subTest(repr(thing)[:80]):
                self.assert_bad(BadFillings, thing, filled, MANY_OPEN, thing)
                self.assert_bad(BadFillings, thing, filled, program=MANY_OPEN, fillings=thing)
        for thing in JUNK + (None, [], (one,), ((),), 0, {}):
            self.assert_bad(BadFillings, thing, filled, DIE, thing)
        for table in WRONG_TABLES:
            self.assert_bad(BadFillings, ((0, table),), filled, OPEN, ((0, table),))
        self.assert_bad(BadFillings, (), filled, OPEN, ())
        self.assert_bad(BadFillings, ((1, LEFT),), filled, OPEN, ((1, LEFT),))


class WorkedOut(Case):
    """[6.5]: programs worked out."""

    def test_all(self):
        for program in PROGRAMS:
            self.assert_calls(own_worked_out(program), worked_out, program=program)

    def test_means_the_same(self):
        source = Source(4)
        for program in ALL_OPEN:
            found = worked_out(program)
            self.assertIs(is_program(found), True)
            self.assertLessEqual(set(places_of(found)), set(places_of(program)))
            for _ in range(3):
                fillings = source.fillings(program)
                less = tuple([pair for pair in fillings if pair[0] in dict(places_of(found))])
                self.assert_same(meaning(filled(found, less)), meaning(filled(program, fillings)))

    def test_closed_ones_become_draws(self):
        for program in ALL_CLOSED:
            self.assert_same(worked_out(program), ("draw", meaning(program)))

    def test_known(self):
        coin, edge = COIN, ("draw", EDGE)
        for program, wanted in (
                (OPEN, OPEN), (THREE, THREE), (ONE, edge), (COIN, COIN), (SWAP, SWAP),
                # Names in order, and names that only begin so.
                (("map", OPEN, (0, 1), 2), OPEN), (("map", OPEN, (0, 1), 3), ("map", OPEN, (0, 1), 3)),
                (("map", OPEN, (0, 0), 1), ("map", OPEN, (0, 0), 1)), (("map", SWAP, (0, 1), 2), SWAP),
                (("map", SWAP, (1, 0), 2), ("map", SWAP, (1, 0), 2)),
                (("map", ("place", 2, 1), (0,), 1), ("place", 2, 1)),
                (("map", THREE, (0, 2, 1), 3), ("map", THREE, (0, 2, 1), 3)),
                # Equal cases, also if they are so only worked out.
                (("bind", OPEN, (coin, coin)), coin), (("bind", OPEN, (OPEN, OPEN)), OPEN),
                (("bind", OPEN, (coin, ("map", coin, (1, 0), 2))), coin), (("bind", OPEN, (ONE, edge)), edge),
                (("bind", OPEN, (OPEN, ("map", OPEN, (0, 1), 2))), OPEN),
                (("bind", ("place", 2, 1), (SWAP,)), SWAP), (("bind", COIN, (OPEN, OPEN)), OPEN),
                # A certain draw, also if it is such only worked out.
                (("bind", ONE, (OPEN, SWAP)), SWAP), (("bind", edge, (coin, OPEN)), OPEN),
                (("bind", edge, (OPEN, coin)), coin), (("bind", ("again", COIN, (0,)), (OPEN, SWAP)), OPEN),
                (("bind", ("bind", OPEN, (ONE, ONE)), (OPEN, SWAP)), SWAP),
                (("bind", ("map", COIN, (1, 1), 2), (OPEN, coin)), coin),
                # All others are left, their parts worked out.
                (BOTH, ("bind", OPEN, (OPEN, edge))), (("bind", COIN, (OPEN, SWAP)), ("bind", COIN, (OPEN, SWAP))),
                (("bind", OPEN, (ONE, ("value", 2, 0))), ("bind", OPEN, (edge, ("draw", ((1, 1), (0, 1)))))),
                (("bind", ("map", COIN, (1, 0), 2), (OPEN, ONE)), ("bind", COIN, (OPEN, edge))),
                (("bind", SWAP, (("again", COIN, (0, 1)), OPEN)), ("bind", SWAP, (coin, OPEN))),
                (("map", ("bind", OPEN, (coin, coin)), (1, 0), 2), ("map", coin, (1, 0), 2)),
                (("map", ("bind", OPEN, (coin, coin)), (0, 1), 2), coin),
                (("bind", ("bind", OPEN, (coin, coin)), (ONE, ("value", 2, 0))),
                 ("bind", coin, (edge, ("draw", ((1, 1), (0, 1)))))),
                (("map", BOTH, (0, 1), 2), ("bind", OPEN, (OPEN, edge)))):
            with self.subTest(repr(program)[:80]):
                self.assert_calls(wanted, worked_out, program=program)

    def test_again_of_a_lot_that_surely_comes(self):
        for inner in (COIN, ONE, DIE, ("draw", SKEW)):
            lot = tuple([v for v, chance in enumerate(meaning(inner)) if chance[0] > 0])
            self.assert_calls(meaning(inner), meaning, program=("again", inner, lot))
            self.assert_calls(("draw", meaning(inner)), worked_out, program=("again", inner, lot))


class Errors(Case):
    """[0.2], "The interface": which errors are raised, in the order of the parameters."""

    def test_wrong_programs(self):
        for wrong in WRONG_PROGRAMS:
            with self.subTest(repr(wrong)[:80]):
                for call in CALLS:
                    self.assert_bad(BadProgram, wrong, call, wrong)
                    self.assert_bad(BadProgram, wrong, call, program=wrong)

    def test_wrong_programs_come_ahead_of_wrong_fillings(self):
        for wrong in WRONG_PROGRAMS:
            for fillings in ((), ((0, LEFT),), None, [1]):
                self.assert_bad(BadProgram, wrong, filled, wrong, fillings)
            self.assert_bad(BadProgram, wrong, filled, fillings=None, program=wrong)

    def test_just_beyond_the_limits(self):
        for wrong in (sized(41), nested(8, COIN, "map"), nested(8, OPEN, "case"), nested(8, COIN, "again")):
            for call in CALLS:
                self.assert_bad(BadProgram, wrong, call, wrong)
            self.assert_bad(BadProgram, wrong, filled, wrong, ())


if __name__ == "__main__":
    unittest.main()
