"""Helpers that several files need, where no function of the interface shows all that they promise."""

import unittest

from coins import DIE_OF_SIX, MACHINES, NEVER_OF_THREE
from drawnbits.common import are_pairs, is_like, power, power_modulo
from drawnbits.equations import solved
from drawnbits.standings import few_rows_behind, rows_behind
from drawnbits.walks import steps_to, walked
from support import JUNK, Case, fraction


class CommonTest(Case):
    def test_powers(self):
        for base in range(-3, 11):
            for many in range(12):
                self.assert_same(power(base, many), base ** many)
        self.assert_same(power(7, 1000), 7 ** 1000)

    def test_powers_divided(self):
        for base in range(0, 11):
            for many in list(range(12)) + [10 ** 30, 2 ** 100 - 1]:
                for modulus in range(1, 12):
                    self.assert_same(power_modulo(base, many, modulus), pow(base, many, modulus))

    def test_pairs(self):
        for thing in (((2, None), (5, [])), ((2, ()), (5, 2))):
            self.assertIs(are_pairs(thing, (2, 5)), True)
            self.assertIs(are_pairs(thing, [2, 5]), True)
            for firsts in ((), (2,), (5, 2), (2, 5, 5), (2, 6)):
                self.assertIs(are_pairs(thing, firsts), False)
        for thing in JUNK + (((1, 0), [5, 0]), ((True, 0), (5, 0)), ((1,), (5, 0)), ((1, 0, 0), (5, 0)), (1, 5)):
            self.assertIs(are_pairs(thing, (1, 5)), False)
        self.assertIs(are_pairs((), ()), True)
        self.assertIs(are_pairs([], ()), False)

    def test_alike_kind_by_kind(self):
        for told in (0, 1, 3, "", "1", (), (1,), (0, "a", (1, (2, 3))), ((), ((),))):
            for thing in JUNK + (0, 1, 3, "1", (), (1,), (True,), [1], (0, "a", (1, (2, 3))), (0, "a", (True, (2, 3))),
                                 (0, "a", [1, (2, 3)]), (0, "a", (1, (2, 3.0))), (False, "a", (1, (2, 3))), ((), ((),)),
                                 ((), ([],)), (0, "a", (1, (2, 3), ())), (0, "a", (1, (2,)))):
                self.assertIs(is_like(thing, told), repr(thing) == repr(told))

    def test_rows_counted_no_further(self):
        for machine in MACHINES + (DIE_OF_SIX, NEVER_OF_THREE):
            for k in list(range(12)) + [57, 58, 59, 60, 199]:
                for most in (1, 2, 8):
                    wanted = {at: min(many, most) for at, many in rows_behind(machine[1], k).items()}
                    self.assertEqual(few_rows_behind(machine[1], k, most), wanted)
        self.assertEqual(few_rows_behind(NEVER_OF_THREE[1], 10 ** 99, 8), {0: 8, 1: 8, 2: 8})

    def test_equations(self):
        # 3 a = 2 b + 1, 4 b = a + c + 2, 5 c = 3 a + b, with the known numbers also as 0 and as three times these.
        found = solved({"a": (3, {"b": 2}, (1, 0, 3)), "b": (4, {"a": 1, "c": 1}, (2, 0, 6)),
                        "c": (5, {"a": 3, "b": 1}, (0, 0, 0))})
        told = {key: [fraction(number) for number in numbers] for key, numbers in found.items()}
        self.assertEqual(sorted(told), ["a", "b", "c"])
        for at, scale in enumerate((1, 0, 3)):
            a, b, c = [told[key][at] for key in "abc"]
            self.assertEqual([3 * a, 4 * b, 5 * c], [2 * b + scale, a + c + 2 * scale, 3 * a + b])
        self.assertEqual(solved({}), {})

    def test_walks(self):
        leads = {0: (1, 2), 1: (3, 3), 2: (0, 3), 3: (4,), 4: (), 5: (0,)}
        came = walked(0, lambda node: leads[node])
        self.assertEqual(list(came), [0, 1, 2, 3, 4])
        self.assertEqual([steps_to(came, node) for node in came], [(), (0,), (1,), (0, 0), (0, 0, 0)])


if __name__ == "__main__":
    unittest.main()
