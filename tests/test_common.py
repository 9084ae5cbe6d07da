"""Helpers that several files need, where no function of the interface shows all that they promise."""

import unittest

from drawnbits.common import power, power_modulo
from support import Case


class CommonTest(Case):
    def test_powers(self):
        for base in range(-3, 11):
            for many in range(12):
                self.assert_same(power(base, many), base ** many)
        self.assert_same(power(7, 1000), 7 ** 1000)

    def test_powers_divided(self):
        for base in range(0, 11):
            for many in list(range(12)) + [10 ** 30, 2 ** 100 - 1]:
                for modulus in range(1, 12):
                    self.assert_same(power_modulo(base, many, modulus), pow(base, many, modulus))


if __name__ == "__main__":
    unittest.main()
