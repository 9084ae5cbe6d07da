"""Part 6: forms of programs, and programs that mean the same for all fillings."""

import unittest
from fractions import Fraction
from itertools import product

from draws import (ALL_CLOSED, BOTH, COIN, DIE, LEFT, MANY_OPEN, ONE, OPEN, PROGRAMS, SWAP, THREE,
                   WRONG_PROGRAMS, Source, nested, own_meaning, own_places, own_size)
from drawnbits.errors import BadProgram, OtherSize
from drawnbits.forms import form_of, judge_programs, programs_hold
from drawnbits.programs import is_program, meaning
from support import EDGE, EIGHT, HALVES, JUNK, SURE, THIRDS, WRONG_TABLES, Case, fraction, table_of, told

X, Y = (0, 0), (1, 0)
ZERO = ("value", 2, 0)
FIRST, SECOND, THIRD, FOURTH = [("place", name, 2) for name in range(4)]
WIDE = ("place", 2, 8)
# Of degree 8, and of many outcomes.
EIGHT_DEEP = nested(7, OPEN, "case")
POWERS = OPEN
for _ in range(7):
    POWERS = ("bind", POWERS, (OPEN, ONE))
MIXED = FIRST
for at in range(7):
    MIXED = ("bind", MIXED, ((SECOND, THIRD, FOURTH)[at % 3], (THIRD, FOURTH, FIRST)[at % 3]))
BROAD = ("bind", WIDE, tuple([("place", k % 2, 8) for k in range(8)]))
THREEFOLD = ("bind", ("place", 3, 8), tuple([("bind", ("place", k % 2, 3), (
    ("draw", EIGHT), WIDE, ("value", 8, k))) if k < 7 else WIDE for k in range(8)]))
# Of 280 and of 324 pairs in the last polynomial.
MANY_PAIRS = ("bind", BROAD, (("place", 3, 8),) * 4 + tuple([("value", 8, k) for k in range(4, 8)]))
MORE_PAIRS = ("bind", BROAD, (("place", 3, 6),) * 6 + (("value", 6, 0), ("value", 6, 1)))
EDGES = [EIGHT_DEEP, POWERS, MIXED, BROAD, THREEFOLD, MANY_PAIRS, MORE_PAIRS]


def put_into(form, tables):
    """What the polynomials of a form come to, told the chances of the places."""
    found = []
    for polynomial in form:
        whole = Fraction(0)
        for unknowns, number in polynomial:
            part = fraction(number)
            for name, v in unknowns:
                part *= fraction(tables[name][v])
            whole += part
        found.append(whole)
    return found


def same_for(one, other, many):
    """Whether two programs have one meaning for so many fillings, taken at random with great bottoms."""
    places = sorted(set(own_places(one) + own_places(other)))
    source = Source(7)
    for _ in range(many):
        tables = {}
        for name, n in places:
            numbers = [source.source.randrange(10 ** 6) + 1 for _ in range(n)]
            tables[name] = table_of([Fraction(number, sum(numbers)) for number in numbers])
        if own_meaning(one, tables) != own_meaning(other, tables):
            return False
    return True


# Pairs of programs that mean the same but are told otherwise.
TOLD_OTHERWISE = [
    (OPEN, ("map", OPEN, (0, 1), 2)), (OPEN, ("map", SWAP, (1, 0), 2)), (OPEN, ("bind", OPEN, (ZERO, ONE))),
    (SWAP, ("bind", OPEN, (ONE, ZERO))), (OPEN, ("bind", THREE, (OPEN, OPEN, OPEN))), (COIN, ("draw", HALVES)),
    (BOTH, ("bind", OPEN, (OPEN, ("map", OPEN, (1, 1), 2)))),
    (COIN, ("bind", OPEN, (COIN, ("map", COIN, (1, 0), 2)))), (COIN, ("bind", COIN, (OPEN, SWAP))),
    (("value", 3, 1), ("map", ("place", 1, 5), (1,) * 5, 3)), (DIE, ("draw", ((1, 3), (1, 3), (1, 3), (0, 1)))),
    (("bind", FIRST, (("bind", SECOND, (ZERO, ONE)), ONE)), ("bind", SECOND, (FIRST, ONE))),
    (("bind", FIRST, (SECOND, ONE)), ("bind", SECOND, (FIRST, ONE))),
    (("bind", ("bind", FIRST, (SECOND, THIRD)), (FOURTH, COIN)),
     ("bind", FIRST, (("bind", SECOND, (FOURTH, COIN)), ("bind", THIRD, (FOURTH, COIN))))),
    (("bind", ("draw", EDGE), (THREE, ("value", 3, 0))), ("value", 3, 0)), (("place", 2, 1), ("value", 1, 0)),
    (("bind", WIDE, (OPEN,) * 8), OPEN), (("map", WIDE, (3, 2, 1, 0, 0, 1, 2, 3), 8), (
        "bind", WIDE, tuple([("value", 8, v) for v in (3, 2, 1, 0, 0, 1, 2, 3)]))),
    (("bind", OPEN, (("bind", OPEN, (COIN, ONE)), ("bind", OPEN, (ZERO, COIN)))), COIN),
    (("bind", ("again", ("draw", THIRDS), (0, 2)), (OPEN, ONE, SWAP)), COIN)]
# Pairs that differ, some of them only in how one unknown comes, or for a few fillings not at all.
UNLIKE = [
    (OPEN, SWAP), (OPEN, BOTH), (OPEN, SECOND), (FIRST, COIN), (BOTH, ("bind", OPEN, (SECOND, ONE))), (ONE, ZERO),
    (MANY_OPEN, ("value", 2, 0)), (POWERS, ONE), (POWERS, BOTH), (EIGHT_DEEP, POWERS), (MIXED, SECOND),
    (THREE, ("map", THREE, (0, 2, 1), 3)), (THREE, ("map", ("place", 1, 3), (0, 1, 2), 3)),
    (WIDE, ("map", WIDE, (0, 1, 2, 3, 4, 5, 7, 6), 8)),
    (("bind", OPEN, (("bind", OPEN, (COIN, ZERO)), COIN)), COIN),
    (("draw", LEFT), COIN), (("bind", FIRST, (SECOND, ONE)), ("bind", FIRST, (THIRD, ONE))), (BROAD, WIDE)]


class Examples(Case):
    """The examples of drawnbits/forms.py, as the document has them."""

    def test_all(self):
        self.assert_same(
            [form_of(SWAP), form_of(BOTH),
             judge_programs(BOTH, ('bind', OPEN, (OPEN, ('map', OPEN, (1, 1), 2))))[0],
             programs_hold(OPEN, SWAP, ('fillings', ((0, ((1, 3), (2, 3))),))),
             programs_hold(OPEN, SWAP, ('fillings', ((0, ((1, 2), (1, 2))),)))],
            [((((), (1, 1)), (((0, 0),), (-1, 1))), ((((0, 0),), (1, 1)),)),
             (((((0, 0), (0, 0)), (1, 1)),), (((), (1, 1)), (((0, 0), (0, 0)), (-1, 1)))), 'same', True, False])


class Forms(Case):
    """[6.3]: the polynomials of the outcomes."""

    def check_form(self, program):
        form = form_of(program)
        self.assertEqual(len(form), own_size(program))
        sizes = dict(own_places(program))
        for polynomial in form:
            products = [unknowns for unknowns, _ in polynomial]
            self.assertEqual(products, sorted(set(products)))
            for unknowns, number in polynomial:
                self.assertEqual(list(unknowns), sorted(unknowns))
                self.assertTrue(all([v < sizes[name] - 1 for name, v in unknowns]))
                self.assertNotEqual(number[0], 0)
                self.assert_fraction(number, fraction(number))
        return form

    def test_numbers_put_in(self):
        source = Source(5)
        for program in PROGRAMS + EDGES + [one for pair in TOLD_OTHERWISE for one in pair]:
            form = self.check_form(program)
            for _ in range(4):
                tables = {name: source.table(n) for name, n in own_places(program)}
                self.assertEqual(put_into(form, tables), own_meaning(program, tables))

    def test_by_position_and_by_name(self):
        for program in PROGRAMS[::20] + EDGES:
            self.assert_calls(form_of(program), form_of, program=program)

    def test_closed_ones_are_numbers(self):
        for program in ALL_CLOSED:
            wanted = tuple([(((), chance),) if chance[0] else () for chance in meaning(program)])
            self.assert_same(form_of(program), wanted)

    def test_known(self):
        half, whole, less = (1, 2), (1, 1), (-1, 1)
        for program, wanted in (
                (OPEN, ((((X,), whole),), (((), whole), ((X,), less)))), (("place", 2, 1), ((((), whole),),)),
                (ZERO, ((((), whole),), ())), (("draw", EDGE), ((), (((), whole),))),
                (THREE, (((((3, 0),), whole),), ((((3, 1),), whole),),
                         (((), whole), (((3, 0),), less), (((3, 1),), less)))),
                (("map", OPEN, (1, 1), 3), ((), (((), whole),), ())),
                (("bind", COIN, (OPEN, ONE)), ((((X,), half),), (((), whole), ((X,), (-1, 2))))),
                (("bind", OPEN, (SECOND, ZERO)), (
                    (((), whole), ((X,), less), ((X, Y), whole)), (((X,), whole), ((X, Y), less)))),
                # The unknowns leave each other: of one outcome the polynomial is ().
                (("bind", OPEN, (COIN, COIN)), ((((), half),), (((), half),))),
                (("bind", OPEN, (ONE, ONE)), ((), (((), whole),))),
                (("bind", OPEN, (OPEN, SWAP)), (
                    (((), whole), ((X,), (-2, 1)), ((X, X), (2, 1))), (((X,), (2, 1)), ((X, X), (-2, 1))))),
                (POWERS, ((((X,) * 8, whole),), (((), whole), ((X,) * 8, less))))):
            with self.subTest(repr(program)[:60]):
                self.assert_calls(wanted, form_of, program=program)

    def test_edges(self):
        self.assertEqual(max([len(unknowns) for part in form_of(MIXED) for unknowns, _ in part]), 8)
        self.assertGreater(max([len(part) for part in form_of(MIXED)]), 100)
        self.assertEqual(max([len(part) for part in form_of(MANY_PAIRS)]), 280)
        self.assertEqual(max([len(part) for part in form_of(MORE_PAIRS)]), 324)
        self.assertEqual(len(form_of(("place", 0, 8))[7]), 8)
        for one, other in ((MANY_PAIRS, ("map", MANY_PAIRS, (0, 1, 2, 3, 4, 5, 6, 7), 8)), (MIXED, MIXED)):
            self.assert_same(judge_programs(one, other), ("same", form_of(MANY_PAIRS if one == MANY_PAIRS else MIXED)))
        turned = ("map", MANY_PAIRS, (0, 1, 2, 3, 4, 5, 7, 6), 8)
        self.assertIs(programs_hold(MANY_PAIRS, turned, judge_programs(MANY_PAIRS, turned)), True)


class MeanTheSame(Case):
    """[6.4]: programs that mean the same, and fillings that part the others."""

    def check_pair(self, one, other):
        found = judge_programs(one, other)
        self.assertIs(programs_hold(one, other, found), True)
        form = form_of(one)
        self.assertIs(programs_hold(one, other, ("same", form)), found[0] == "same")
        if found[0] == "same":
            self.assert_same(found, ("same", form))
            self.assertTrue(same_for(one, other, 3))
            return found
        word, fillings = found
        self.assertEqual(word, "fillings")
        places = sorted(set(own_places(one) + own_places(other)))
        self.assertEqual([(name, len(table)) for name, table in fillings], places)
        tables = dict(fillings)
        for table in tables.values():
            self.assertEqual(sum(told(table)), 1)
            self.assertGreaterEqual(min(told(table)), 0)
            self.assert_same(table_of(told(table)), table)
        self.assertNotEqual(own_meaning(one, tables), own_meaning(other, tables))
        return found

    def test_told_otherwise(self):
        for one, other in TOLD_OTHERWISE:
            for first, second in ((one, other), (other, one), (one, one)):
                with self.subTest(repr((first, second))[:80]):
                    self.assertEqual(self.check_pair(first, second)[0], "same")

    def test_unlike(self):
        for one, other in UNLIKE:
            for first, second in ((one, other), (other, one)):
                with self.subTest(repr((first, second))[:80]):
                    self.assertEqual(self.check_pair(first, second)[0], "fillings")

    def test_at_random(self):
        for seed in range(6):
            programs = Source(20 + seed).programs(60, True)
            for one, other in zip(programs, programs[1:]):
                one, other = [("map", part, tuple([k % 2 for k in range(own_size(part))]), 2) for part in (one, other)]
                if is_program(one) and is_program(other):
                    found = self.check_pair(one, other)
                    self.assertEqual(found[0] == "same", same_for(one, other, 3))

    def test_by_position_and_by_name(self):
        for one, other in TOLD_OTHERWISE + UNLIKE:
            found = judge_programs(one, other)
            self.assert_calls(found, judge_programs, program=one, other=other)
            self.assert_calls(True, programs_hold, program=one, other=other, thing=found)

    def test_only_a_few_fillings_part_them(self):
        # Unlike at all fillings but those of the chances 0, 1/2 and 1; then also at those of 1/4 and 3/4.
        less = ("bind", FIRST, (("bind", FIRST, (ZERO, COIN)), ("bind", FIRST, (COIN, ONE))))
        twice = ("bind", less, (("bind", FIRST, (ZERO, FIRST)), ("bind", FIRST, (FIRST, ONE))))
        for one, other in ((less, FIRST), (twice, FIRST), (twice, less)):
            self.check_pair(one, other)
        places = ("bind", FIRST, (("bind", SECOND, (THIRD, FOURTH)), ("bind", SECOND, (FOURTH, THIRD))))
        moved = ("bind", SECOND, (("bind", FIRST, (THIRD, FOURTH)), ("bind", FIRST, (FOURTH, THIRD))))
        self.assertEqual(self.check_pair(places, moved)[0], "same")
        self.assertEqual(self.check_pair(places, ("map", places, (1, 0), 2))[0], "fillings")

    def test_unknowns_of_one_program_only(self):
        for one, other, names in ((OPEN, COIN, [0]), (COIN, OPEN, [0]), (OPEN, SECOND, [0, 1]), (SECOND, OPEN, [0, 1]),
                                  (ONE, ZERO, []), (("bind", THREE, (OPEN, OPEN, OPEN)), SECOND, [0, 1, 3]),
                                  (("bind", ("place", 2, 1), (OPEN,)), SWAP, [0, 2])):
            found = self.check_pair(one, other)
            self.assertEqual([name for name, _ in found[1]], names)
        # They leave each other, but stand in the program all the same.
        gone = ("bind", THREE, (COIN, COIN, COIN))
        for wrong in ((), ((0, HALVES),), ((3, THIRDS), (0, HALVES)), ((3, HALVES),)):
            self.assert_calls(False, programs_hold, program=gone, other=ONE, thing=("fillings", wrong))
        self.assert_calls(True, programs_hold, program=gone, other=ONE, thing=("fillings", ((3, THIRDS),)))
        self.assert_calls(True, programs_hold, program=ONE, other=gone, thing=("fillings", ((3, THIRDS),)))


class Held(Case):
    """[6.4]: which certificates are right, whoever made them."""

    def test_all_small_fillings(self):
        tables = [table_of([Fraction(k, 12), Fraction(12 - k, 12)]) for k in range(13)]
        for one, other in product((OPEN, SWAP, BOTH, SECOND, COIN, ("bind", OPEN, (SECOND, SWAP))), repeat=2):
            places = sorted(set(own_places(one) + own_places(other)))
            for chosen in product(tables, repeat=len(places)):
                fillings = tuple([(name, table) for (name, _), table in zip(places, chosen)])
                right = own_meaning(one, dict(fillings)) != own_meaning(other, dict(fillings))
                self.assertIs(programs_hold(one, other, ("fillings", fillings)), right)

    def test_forms_with_one_part_otherwise(self):
        one, other = TOLD_OTHERWISE[6]
        form = form_of(one)
        self.assertIs(programs_hold(one, other, ("same", form)), True)
        wrong = [form[::-1], form + ((),), form[:1], list(form), (list(form[0]), form[1]), (form[0], form[1][::-1]),
                 (form[0] + form[0], form[1]), ((), form[1]), (form[0], form[1][:1]), (form[0], form[0]),
                 (((((0, 0), (0, 0)), (True, 1)),), form[1]), (((((0, 0), (0, 0)), (1, True)),), form[1]),
                 (((((0, False), (0, 0)), (1, 1)),), form[1]), (((((False, 0), (0, 0)), (1, 1)),), form[1]),
                 (((((0, 0), (0, 0)), (2, 2)),), form[1]), (((((0, 0), (0, 0)), (1, 2)),), form[1]),
                 (((((0, 0), (0, 1)), (1, 1)),), form[1]), (((((0, 0),), (1, 1)),), form[1]),
                 ((([(0, 0), (0, 0)], (1, 1)),), form[1]), (((((0, 0), (0, 0)), [1, 1]),), form[1]),
                 ((((((0, 0), (0, 0)), (1, 1)), ((X,), (0, 1)))), form[1]), ((form[0],), form[1]), (form,), form[0],
                 (((((0, 0), (0, 0)), (1, 1), ()),), form[1]), (((((0, 0), [0, 0]), (1, 1)),), form[1]),
                 ((((0, 0, 0, 0), (1, 1)),), form[1]), (((((0.0, 0), (0, 0)), (1, 1)),), form[1])]
        for thing in wrong:
            with self.subTest(repr(thing)[:80]):
                self.assert_calls(False, programs_hold, program=one, other=other, thing=("same", thing))
        for program in (COIN, ONE, DIE):
            form = form_of(program)
            for thing in ((form,), form + form, tuple(meaning(program)), ()):
                self.assert_calls(False, programs_hold, program=program, other=program, thing=("same", thing))
            self.assert_calls(True, programs_hold, program=program, other=program, thing=("same", form))

    def test_things_that_are_no_certificates(self):
        form = form_of(OPEN)
        right = ((0, LEFT),)
        things = JUNK + (
            (), "same", ("same",), ["same", form], ("Same", form), ("same", form, form), (("same", form),),
            (form, "same"), ("fillings",), ["fillings", right], ("Fillings", right), ("fillings", right, right),
            (("fillings", right),), (right, "fillings"), ("fillings", list(right)), ("fillings", (0, LEFT)),
            ("fillings", ([0, LEFT],)), ("fillings", ((0, list(LEFT)),)), ("fillings", ((False, LEFT),)),
            ("fillings", ((0, LEFT), (0, LEFT))), ("fillings", ((0, LEFT), (1, LEFT))), ("fillings", ((1, LEFT),)),
            ("fillings", ((0, THIRDS),)), ("fillings", ((0, SURE),)), ("fillings", ((0, ((2, 6), (2, 3))),)),
            ("fillings", ((0, ((1, 3), (1, 3))),)), ("fillings", ((0, ((True, 1), (0, 1))),)), ("fillings", ()),
            ("fillings", None), ("fillings", ((0, ("draw", LEFT)),)), ("fillings", ((0, LEFT, ()),)), {"same": form},
            ("fillings", ((0, ((-1, 3), (4, 3))),)), ("fillings", {0: LEFT}), ("fillings", ((LEFT, 0),)), (0, form),
            ("fillings", ((0, ((1, 2), (1, 2))),)), ("same", None), ("same", 0), ("fillings", form))
        for thing in things:
            with self.subTest(repr(thing)[:80]):
                self.assert_calls(False, programs_hold, program=OPEN, other=SWAP, thing=thing)
        self.assert_calls(True, programs_hold, program=OPEN, other=SWAP, thing=("fillings", right))
        for table in WRONG_TABLES:
            self.assert_calls(False, programs_hold, program=OPEN, other=SWAP, thing=("fillings", ((0, table),)))
        for thing in JUNK:
            self.assert_calls(False, programs_hold, program=OPEN, other=OPEN, thing=("same", thing))
            self.assert_calls(False, programs_hold, program=OPEN, other=SWAP, thing=("fillings", thing))

    def test_certificates_of_other_pairs(self):
        pairs = (TOLD_OTHERWISE + UNLIKE)[:30]
        for one, other in pairs:
            for first, second in pairs:
                found = judge_programs(first, second)
                places = sorted(set(own_places(one) + own_places(other)))
                if found[0] == "same":
                    right = judge_programs(one, other) == found
                else:
                    right = [(name, len(table)) for name, table in found[1]] == places
                    tables = dict(found[1])
                    right = right and own_meaning(one, tables) != own_meaning(other, tables)
                self.assertIs(programs_hold(one, other, found), right)

    def test_fillings_with_great_numbers(self):
        great = 10 ** 99 + 289
        table = ((1, great), (great - 1, great))
        self.assert_calls(True, programs_hold, program=OPEN, other=SWAP, thing=("fillings", ((0, table),)))
        self.assert_calls(False, programs_hold, program=OPEN, other=OPEN, thing=("fillings", ((0, table),)))


class Errors(Case):
    """[0.2], "The interface": which errors are raised, in the order of the parameters."""

    def test_wrong_programs(self):
        for wrong in WRONG_PROGRAMS:
            with self.subTest(repr(wrong)[:80]):
                self.assert_bad(BadProgram, wrong, form_of, wrong)
                self.assert_bad(BadProgram, wrong, form_of, program=wrong)
                for other in (OPEN, THREE, None, [], wrong):
                    self.assert_bad(BadProgram, wrong, judge_programs, wrong, other)
                    self.assert_bad(BadProgram, wrong, programs_hold, wrong, other, ("same", ()))
                self.assert_bad(BadProgram, wrong, judge_programs, OPEN, wrong)
                self.assert_bad(BadProgram, wrong, judge_programs, other=wrong, program=THREE)
                self.assert_bad(BadProgram, wrong, programs_hold, OPEN, wrong, None)
                self.assert_bad(BadProgram, wrong, programs_hold, thing=None, other=wrong, program=OPEN)

    def test_other_sizes(self):
        open_by_two = ("map", ("place", 1, 2), (0, 1), 2)
        open_by_three = ("map", ("place", 1, 3), (0, 1, 1), 2)
        for one, other in ((OPEN, THREE), (THREE, OPEN), (("value", 1, 0), COIN), (DIE, COIN),
                           (open_by_two, open_by_three), (open_by_three, open_by_two), (("place", 0, 2), (
                               "map", ("place", 0, 8), (1,) * 8, 2)), (("bind", THREE, (OPEN,) * 3), (
                                   "map", ("place", 3, 1), (0,), 2)), (MANY_OPEN, ("map", ("place", 3, 2), (0, 0), 2))):
            for thing in (None, ("same", form_of(one)), ("fillings", ())):
                self.assert_bad(OtherSize, other, programs_hold, one, other, thing)
                self.assert_bad(OtherSize, other, programs_hold, program=one, other=other, thing=thing)
            self.assert_bad(OtherSize, other, judge_programs, one, other)
            self.assert_bad(OtherSize, other, judge_programs, program=one, other=other)

    def test_what_is_passed_stays_as_it_was(self):
        for thing in (["same", [1]], ("same", [[], []]), ("fillings", [[0, [[1, 2], [1, 2]]]]), {"same": [1]}):
            self.assert_calls(False, programs_hold, program=OPEN, other=SWAP, thing=thing)


if __name__ == "__main__":
    unittest.main()
