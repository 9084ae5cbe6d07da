"""Part 10: models, ways, stretches and codes, and ways drawn from bits."""

import unittest
from fractions import Fraction

from coins import WRONG_BITS, rows
from drawnbits.coder import bits_stretch, code, deciding, is_model, is_way, mean_bits, stretch, way_drawn
from drawnbits.errors import BadBits, BadModel, BadNumber, BadWay
from support import WRONG_NUMBERS, Case, fraction, pair
from ways import (ALONE, ALONE_OF_THREE, ALWAYS_LAST, DYADIC, FAIR, FINE, FIVE, IN_TURN, MODELS, NEVER_COME_TO, ONE,
                  SIX, WRONG_MODELS, WRONG_ROWS_OF_TWO, all_rows, own_stretch, own_stretches, own_ways, some_way)

# Rows of outcomes that are no ways, as one of them cannot come.
NO_WAYS = ((ALWAYS_LAST, (0,)), (ALWAYS_LAST, (1, 1, 0)), (IN_TURN, (0,)), (IN_TURN, (1, 0, 0)), (
    NEVER_COME_TO, (1,)), (NEVER_COME_TO, (2, 0)), (NEVER_COME_TO, (0, 2, 1, 2, 2)), (FIVE, (0, 3)), (FIVE, (5,)), (
    ALONE, (1,)), (ALONE, (0, 0, 1)), (DYADIC, (1, 1)))


def few(model, most):
    """Numbers of outcomes up to most with which a model has at most 60 ways."""
    return [k for k in range(most + 1) if len(own_ways(model, k)) <= 60]


def row_stretch(row):
    number = sum([bit * 2 ** (len(row) - 1 - at) for at, bit in enumerate(row)])
    return Fraction(number, 2 ** len(row)), Fraction(1, 2 ** len(row))


def is_in(one, other):
    return other[0] <= one[0] and one[0] + one[1] <= other[0] + other[1]


def own_code(found):
    """The first row of bits in a stretch, all rows of each length being looked through."""
    k = 0
    while True:
        for row in rows(k):
            if is_in(row_stretch(row), found):
                return row
        k += 1


def own_drawn(stretches, bits):
    """The way that the shortest beginning decides, all beginnings and all ways being looked through."""
    for m in range(len(bits) + 1):
        for way, found in stretches.items():
            if is_in(row_stretch(bits[:m]), found):
                return (way, m)
    return None


def own_mean(model, k, most):
    """The sum of the chances that m bits decide nothing, for all m below most."""
    borders = [low for low, _ in own_stretches(model, k).values()][1:]
    whole = Fraction(0)
    for m in range(most):
        undecided = {low * 2 ** m // 1 for low in borders if low * 2 ** m % 1 != 0}
        whole += Fraction(len(undecided), 2 ** m)
    return whole


class Examples(Case):
    """The examples of drawnbits/coder.py, as the document has them."""

    def test_all(self):
        self.assert_same(
            [stretch(ONE, (1, 0)), bits_stretch((0, 1, 1)), code(ONE, (1, 0)), code(ONE, ()),
             way_drawn(ONE, (0, 1, 1, 0, 1), 2), way_drawn(ONE, (0, 1), 1), deciding(ONE, (1,), 2),
             deciding(ONE, (1,), 3), mean_bits(ONE, 1)],
            [((1, 3), (2, 9)), ((3, 8), (1, 8)), (0, 1, 1), (), ((1, 0), 3), None, 2, 5, (2, 1)])


class Models(Case):
    """[10.1]: models and ways."""

    def test_right_models(self):
        for model in MODELS:
            self.assert_calls(True, is_model, thing=model)

    def test_wrong_values(self):
        for thing in WRONG_MODELS:
            with self.subTest(repr(thing)[:80]):
                self.assert_calls(False, is_model, thing=thing)

    def test_wrong_in_each_state(self):
        for k in range(6):
            for wrong in ((SIX[0][0], (0, 6, 0)), (SIX[0][0], (0, True, 0)), (SIX[0][0], (0, 0)), ONE[0], None, ()):
                self.assertIs(is_model(SIX[:k] + (wrong,) + SIX[k + 1:]), False)

    def test_all_short_rows(self):
        for model in MODELS:
            for k in range(4):
                right = [way for way, _, _ in own_ways(model, k)]
                for row in all_rows(model, k):
                    if len(row) == k:
                        self.assertIs(is_way(model, row), row in right)

    def test_ways_known(self):
        for model in MODELS:
            self.assert_calls(True, is_way, model=model, thing=())
            self.assert_calls(True, is_way, model=model, thing=some_way(model, 40, 1))
            self.assert_calls(True, is_way, model=model, thing=some_way(model, 400, 2))
        for model, way in NO_WAYS:
            self.assert_calls(False, is_way, model=model, thing=way)

    def test_things_that_are_no_ways(self):
        for thing in WRONG_ROWS_OF_TWO:
            self.assert_calls(False, is_way, model=ONE, thing=thing)
            self.assert_calls(False, is_way, model=FINE, thing=thing)


class Stretches(Case):
    """[10.2]: stretches of ways and of bits."""

    def test_beside_one_another(self):
        for model in MODELS:
            for k in few(model, 5):
                for way, (low, size) in own_stretches(model, k).items():
                    self.assert_same(stretch(model, way), (pair(low), pair(size)))

    def test_long_ways(self):
        for model in MODELS:
            for many in (0, 1, 7, 40):
                way = some_way(model, many, many)
                low, size = own_stretch(model, way)
                self.assert_calls((pair(low), pair(size)), stretch, model=model, way=way)

    def test_known(self):
        self.assert_calls(((0, 1), (1, 1)), stretch, model=SIX, way=())
        self.assert_calls(((0, 1), (1, 1)), stretch, model=ALONE, way=(0,) * 40)
        self.assert_calls(((0, 1), (1, 3 ** 40)), stretch, model=ONE, way=(0,) * 40)
        self.assert_calls(((1, 2), (1, 2)), stretch, model=NEVER_COME_TO, way=(2, 1))

    def test_bits(self):
        for k in range(7):
            for row in rows(k):
                low, size = row_stretch(row)
                self.assert_calls((pair(low), pair(size)), bits_stretch, bits=row)
        self.assert_calls(((0, 1), (1, 1)), bits_stretch, bits=())
        self.assert_calls(((2 ** 400 - 1, 2 ** 400), (1, 2 ** 400)), bits_stretch, bits=(1,) * 400)
        self.assert_calls(((1, 2), (1, 2 ** 400)), bits_stretch, bits=(1,) + (0,) * 399)


class Codes(Case):
    """[10.3]: codes, and rows of bits that decide."""

    def test_codes(self):
        for model in MODELS:
            for k in few(model, 4):
                for way, found in own_stretches(model, k).items():
                    if found[1] > Fraction(1, 2 ** 7):
                        self.assert_same(code(model, way), own_code(found))

    def test_no_code_is_a_beginning_of_another(self):
        for model in MODELS:
            for k in few(model, 4):
                codes = [code(model, way) for way, _, _ in own_ways(model, k)]
                for at, one in enumerate(codes):
                    for other in codes[at + 1:]:
                        self.assertNotEqual(one, other[:len(one)])
                        self.assertNotEqual(other, one[:len(other)])

    def test_long_ways(self):
        for model in MODELS:
            way = some_way(model, 40, 5)
            found = code(model, way)
            self.assert_calls(found, code, model=model, way=way)
            inner, outer = row_stretch(found), own_stretch(model, way)
            self.assertTrue(is_in(inner, outer))
            # No shorter row lies in it, and none of this length ahead of it.
            for k in range(len(found)):
                first = -(-outer[0] * 2 ** k // 1)
                self.assertGreater(first + 1, (outer[0] + outer[1]) * 2 ** k)
            self.assertLess(inner[0] - inner[1], outer[0])
            self.assertGreaterEqual(2 * Fraction(1, 2 ** (len(found) - 1)) if found else 2, outer[1])
            # At most 1 more than the least j with 1 / 2 ** j at most the chance.
            j = [j for j in range(400) if Fraction(1, 2 ** j) <= outer[1]][0]
            self.assertLessEqual(len(found), j + 1)

    def test_codes_known(self):
        for model, way, row in ((ONE, (), ()), (ALONE, (0,) * 40, ()), (FAIR, (1, 0, 1), (1, 0, 1)),
                                (ONE, (0,), (0, 0)), (ONE, (1,), (1,)), (NEVER_COME_TO, (2, 1), (1,)),
                                (DYADIC, (1, 0), (1, 0, 0, 0, 0)),
                                (ALWAYS_LAST, (1, 1, 1), ()), (FAIR, (0,) * 40, (0,) * 40)):
            self.assert_calls(row, code, model=model, way=way)

    def test_deciding(self):
        for model in MODELS:
            for k in few(model, 3):
                for way, found in own_stretches(model, k).items():
                    for m in (0, 1, 2, 5, 7):
                        many = len([row for row in rows(m) if is_in(row_stretch(row), found)])
                        self.assert_same(deciding(model, way, m), many)

    def test_deciding_at_the_edges(self):
        for m in (0, 1, 2, 399, 400):
            self.assert_calls(2 ** m, deciding, model=ALONE, way=(0,) * 40, k=m)
            self.assert_calls(2 ** m, deciding, model=ONE, way=(), k=m)
            self.assert_calls(2 ** m // 3, deciding, model=ONE, way=(0,), k=m)
        for model in MODELS:
            way = some_way(model, 40, 6)
            size = own_stretch(model, way)[1]
            for m in (0, 300, 400):
                many = deciding(model, way, m)
                self.assert_calls(many, deciding, model=model, way=way, k=m)
                self.assertLessEqual(Fraction(many, 2 ** m), size)
                self.assertGreater(Fraction(many + 2, 2 ** m), size)


class Drawn(Case):
    """[10.4]: ways that are drawn from bits, and how many bits this takes."""

    def test_all_short_rows(self):
        for model in MODELS:
            for k in few(model, 3):
                stretches = own_stretches(model, k)
                for m in (0, 1, 3, 6):
                    for row in rows(m):
                        self.assert_same(way_drawn(model, row, k), own_drawn(stretches, row))

    def test_codes_draw_their_ways(self):
        for model in MODELS:
            for many in (0, 1, 5, 40):
                way = some_way(model, many, many + 1)
                row = code(model, way)
                for more in ((), (0, 1, 1), (1,) * 20, (0,) * 20):
                    self.assert_calls((way, len(row)), way_drawn, model=model, bits=row + more, k=many)
                if row:
                    told = way_drawn(model, row[:-1], many)
                    self.assertTrue(told is None)

    def test_long_rows(self):
        self.assert_calls(((1, 0) * 200, 400), way_drawn, model=FAIR, bits=(1, 0) * 200, k=400)
        self.assert_calls(None, way_drawn, model=FAIR, bits=(1, 0) * 199 + (1,), k=400)
        self.assert_calls(((0,) * 400, 0), way_drawn, model=ALONE, bits=(1,), k=400)
        self.assert_calls(((0,) * 400, 0), way_drawn, model=ALONE_OF_THREE, bits=(), k=400)
        self.assert_calls(((), 0), way_drawn, model=SIX, bits=(1, 0) * 200, k=0)
        self.assert_calls(None, way_drawn, model=ONE, bits=(0, 1) * 200, k=1)
        self.assert_calls(((1,) * 400, 0), way_drawn, model=ALWAYS_LAST, bits=(0,), k=400)
        self.assert_calls(None, way_drawn, model=SIX, bits=(1, 0, 0, 1, 1) * 80, k=400)
        for model in MODELS:
            for k in (1, 40):
                told = way_drawn(model, (1, 0, 0, 1, 1) * 80, k)
                if told is not None:
                    way, length = told
                    self.assertTrue(is_in(row_stretch(((1, 0, 0, 1, 1) * 80)[:length]), own_stretch(model, way)))
                    self.assertEqual(len(way), k)

    def test_chances(self):
        for model in (ONE, DYADIC, FIVE, SIX, NEVER_COME_TO):
            counts = {}
            for row in rows(9):
                told = way_drawn(model, row, 2)
                if told is not None:
                    counts[told[0]] = counts.get(told[0], 0) + 1
            for way, _, chance in own_ways(model, 2):
                self.assertEqual(counts.get(way, 0), deciding(model, way, 9))
                self.assertTrue(chance - Fraction(2, 2 ** 9) < Fraction(counts.get(way, 0), 2 ** 9) <= chance)

    def test_means(self):
        for model in MODELS:
            for k in [k for k in range(7) if len(own_ways(model, k)) <= 200]:
                found = mean_bits(model, k)
                self.assertLess(abs(fraction(found) - own_mean(model, k, 300)), Fraction(1, 2 ** 280))
            self.assert_calls(mean_bits(model, 2), mean_bits, model=model, k=2)

    def test_means_row_by_row(self):
        for model in (ONE, DYADIC, IN_TURN, FIVE):
            for k in (1, 2):
                stretches = own_stretches(model, k)
                whole = Fraction(0)
                for m in range(10):
                    undecided = [row for row in rows(m) if own_drawn(stretches, row) is None]
                    whole += Fraction(len(undecided), 2 ** m)
                left = fraction(mean_bits(model, k)) - whole
                self.assertTrue(0 <= left <= Fraction(2 * len(stretches), 2 ** 10))

    def test_means_known(self):
        for model, k, number in ((ONE, 0, 0), (ONE, 1, 2), (ALONE, 6, 0), (FAIR, 1, 1), (FAIR, 6, 6),
                                 (ALWAYS_LAST, 6, 0), (NEVER_COME_TO, 1, 1), (DYADIC, 1, Fraction(3, 2)),
                                 (IN_TURN, 1, 0), (IN_TURN, 2, 1),
                                 (ALONE, 400, 0)):
            self.assert_calls(pair(number), mean_bits, model=model, k=k)


class Errors(Case):
    """[0.2], "The interface": which errors are raised, in the order of the parameters."""

    def test_wrong_models_come_first(self):
        for wrong in WRONG_MODELS:
            with self.subTest(repr(wrong)[:80]):
                for more in ((), None, (0, True)):
                    for call in (stretch, code):
                        self.assert_bad(BadModel, wrong, call, wrong, more)
                        self.assert_bad(BadModel, wrong, call, way=more, model=wrong)
                    self.assert_bad(BadModel, wrong, is_way, wrong, more)
                    self.assert_bad(BadModel, wrong, is_way, thing=more, model=wrong)
                    self.assert_bad(BadModel, wrong, mean_bits, wrong, more)
                    self.assert_bad(BadModel, wrong, mean_bits, k=2, model=wrong)
                    self.assert_bad(BadModel, wrong, way_drawn, wrong, more, None)
                    self.assert_bad(BadModel, wrong, way_drawn, k=2, bits=(1,), model=wrong)
                    self.assert_bad(BadModel, wrong, deciding, wrong, more, None)
                    self.assert_bad(BadModel, wrong, deciding, k=1, way=more, model=wrong)

    def test_wrong_ways(self):
        for model, wrong in [(ONE, wrong) for wrong in WRONG_ROWS_OF_TWO] + list(NO_WAYS):
            with self.subTest(repr(wrong)[:80]):
                for call in (stretch, code):
                    self.assert_bad(BadWay, wrong, call, model, wrong)
                    self.assert_bad(BadWay, wrong, call, way=wrong, model=model)
                for k in (2, -1, None, True):
                    self.assert_bad(BadWay, wrong, deciding, model, wrong, k)
                    self.assert_bad(BadWay, wrong, deciding, k=k, way=wrong, model=model)

    def test_wrong_bits(self):
        for wrong in WRONG_BITS:
            with self.subTest(repr(wrong)[:80]):
                self.assert_bad(BadBits, wrong, bits_stretch, wrong)
                self.assert_bad(BadBits, wrong, bits_stretch, bits=wrong)
                for k in (2, 0, -1, None):
                    self.assert_bad(BadBits, wrong, way_drawn, ONE, wrong, k)
                    self.assert_bad(BadBits, wrong, way_drawn, k=k, bits=wrong, model=ALONE)

    def test_wrong_numbers(self):
        for wrong in WRONG_NUMBERS:
            with self.subTest(repr(wrong)[:80]):
                self.assert_bad(BadNumber, wrong, deciding, ONE, (1, 0), wrong)
                self.assert_bad(BadNumber, wrong, deciding, k=wrong, way=(), model=SIX)
                self.assert_bad(BadNumber, wrong, way_drawn, ONE, (1, 0), wrong)
                self.assert_bad(BadNumber, wrong, way_drawn, k=wrong, bits=(), model=SIX)
                self.assert_bad(BadNumber, wrong, mean_bits, ONE, wrong)
                self.assert_bad(BadNumber, wrong, mean_bits, k=wrong, model=SIX)


if __name__ == "__main__":
    unittest.main()
