"""Part 8: outcomes drawn out of what is left over of the bits behind a draw."""

import unittest
from fractions import Fraction
from itertools import product
from math import log2

from coins import WRONG_BITS, rows
from drawnbits.errors import BadBits, BadNumber, BadRow
from drawnbits.leftover import long_run, mean_bits, row_wanted, sizes, wanted
from support import JUNK, Case, fraction

WRONG_WIDTHS = JUNK + (0, 13, 14, (1,), "3", 10 ** 99, (), 3.0, [3])
# Values that are no want of a width of 3, so none above 8.
WRONG_WANTS = JUNK + (0, 1, 9, 64, 65, (2,), "2", 10 ** 99, (), 2.0, [2])
WRONG_ROWS = [thing for thing in JUNK if thing != ()] + [
    2, 3, [2], [], (1,), (0,), (9,), (2, 9), (9, 2), (True,), (2, True), (2, (3,)), ((2, 3),), ("2",), (2, None), "23",
    {2: 3}, (2.0,), (-2,), (10 ** 99,), (65,), (2, 3, [4])]
# Values that are no rest with m below 16.
WRONG_RESTS = JUNK + (
    (), 1, (1,), (1, 0, 0), [1, 0], (0, 0), (1, 1), (1, -1), (-1, 0), (-1, -2), (16, 0), (16, 15), (17, 3), (3, 3),
    (3, 4), (15, 15), (True, 0), (1, False), (1, True), (2, True), ("1", 0), (1, "0"), (1, None), ((1, 0),), (1.0, 0),
    (2, 1.0), (10 ** 99, 0), (10 ** 99, 10 ** 98), {1: 0}, ((1,), 0), (1, (0,)))
ROWS = [(), (2,), (3,), (5, 3), (3, 5), (7, 7, 7), (2, 3, 4, 5, 6, 7, 8), (6, 5, 6, 5), (3,) * 12,
        (8, 7, 6, 5, 4, 3, 2)]


def followed(w, rest, n, bits):
    """What a want comes to, bit by bit, with what is known told by all numbers that are as likely."""
    m, r = rest
    left = list(bits)
    while True:
        while m < 2 ** w:
            if not left:
                return None
            m, r = 2 * m, 2 * r + left.pop(0)
        whole = [(outcome, (m // n, k)) for k in range(m // n) for outcome in range(n)]
        if r < len(whole):
            return whole[r] + (len(bits) - len(left),)
        m, r = m - len(whole), r - len(whole)


def row_followed(w, wants, bits):
    rest, taken, outcomes = (1, 0), 0, ()
    for n in wants:
        told = followed(w, rest, n, bits[taken:])
        if told is None:
            return None
        outcomes, rest, taken = outcomes + (told[0],), told[1], taken + told[2]
    return (outcomes, rest, taken)


def own_behind(w, n, ahead):
    """The chances of the sizes behind a want and its bits in the mean, going on from it 300 times at most."""
    found, bits = {}, Fraction(0)
    for size, chance in ahead.items():
        for _ in range(300):
            while size < 2 ** w:
                size, bits = 2 * size, bits + chance
            q = size // n
            found[q] = found.get(q, 0) + chance * q * n / size
            chance, size = chance * (size - q * n) / size, size - q * n
            if chance < Fraction(1, 2 ** 130):
                break
    return found, bits


def own_row(w, wants):
    ahead, bits = {1: Fraction(1)}, Fraction(0)
    for n in wants:
        ahead, more = own_behind(w, n, ahead)
        bits += more
    return ahead, bits


def own_long_run(w, n):
    """The long-run mean as a float: the shares of the sizes in the long run, and the bits taken from each."""
    start, told = {1}, {}
    while start - set(told):
        size = (start - set(told)).pop()
        behind, bits = own_behind(w, n, {size: Fraction(1)})
        told[size] = ([(q, float(chance)) for q, chance in behind.items()], float(bits))
        start |= set(behind)
    shares = {size: float(size == 1) for size in told}
    for _ in range(2000):
        after = {size: share / 2 for size, share in shares.items()}
        for size, share in shares.items():
            for q, chance in told[size][0]:
                after[q] += share * chance / 2
        shares = after
    return sum([share * told[size][1] for size, share in shares.items()])


class Examples(Case):
    """The examples of drawnbits/leftover.py, as the document has them."""

    def test_first(self):
        self.assert_same(
            [wanted(2, (1, 0), 3, (1, 0)), wanted(2, (1, 0), 3, (1, 1, 0, 1, 1)), wanted(3, (1, 0), 3, (1, 0, 1)),
             wanted(2, (1, 0), 3, (1, 1)), row_wanted(3, (3, 2), (1, 0, 1, 0, 1, 1))],
            [(2, (1, 0), 2), (1, (1, 0), 4), (2, (2, 1), 3), None, ((2, 1), (4, 2), 5)])

    def test_second(self):
        self.assert_same(
            [mean_bits(2, (3,)), sizes(2, (3,)), mean_bits(3, (4,)), sizes(3, (4,)), long_run(2, 3), long_run(3, 4)],
            [(8, 3), ((1, (1, 1)),), (3, 1), ((2, (1, 1)),), (8, 3), (2, 1)])


class Wants(Case):
    """[8.1]: one want, drawn from a rest."""

    def test_all_rests_and_short_rows(self):
        for w in (1, 2, 3):
            for n, m in product(range(2, 2 ** w + 1), range(1, 2 ** (w + 1))):
                for r in range(m):
                    for k in range(6 if w < 3 else 5):
                        for row in rows(k):
                            self.assert_same(wanted(w, (m, r), n, row), followed(w, (m, r), n, row))

    def test_by_position_and_by_name(self):
        for w, rest, n, bits in ((1, (1, 0), 2, (1,)), (1, (3, 2), 2, ()), (3, (15, 14), 8, (1, 0, 1)),
                                 (12, (1, 0), 64, (1,) * 12), (12, (8191, 8190), 63, (0, 1) * 20), (5, (4, 3), 3, (1,)),
                                 (12, (4096, 4095), 64, ()), (6, (1, 0), 37, (1,) * 400)):
            self.assert_calls(followed(w, rest, n, bits), wanted, w=w, rest=rest, n=n, bits=bits)

    def test_edges(self):
        # The widest rests take no bit, those just below one.
        self.assert_calls((63, (64, 63), 0), wanted, w=12, rest=(4096, 4095), n=64, bits=())
        self.assert_calls(None, wanted, w=12, rest=(4095, 0), n=64, bits=())
        self.assert_calls((0, (127, 0), 1), wanted, w=12, rest=(4095, 0), n=64, bits=(0,))
        self.assert_calls((0, (127, 127 - 1), 0), wanted, w=12, rest=(8191, 126 * 64), n=64, bits=())
        # 15 = 1 * 8 + 7: what is not drawn is gone on from, with 7 and 14, then 6 and 12, 4 and 8.
        self.assert_calls((2, (1, 0), 3), wanted, w=3, rest=(15, 14), n=8, bits=(0, 1, 0))
        for w in range(1, 13):
            for n in (2, min(64, 2 ** w)):
                bits = (1,) * w
                self.assert_calls(followed(w, (1, 0), n, bits), wanted, w=w, rest=(1, 0), n=n, bits=bits)
                self.assert_calls(None, wanted, w=w, rest=(1, 0), n=n, bits=bits[1:])

    def test_outcomes_are_as_likely(self):
        for w, n, m in product((2, 3, 4), (2, 3, 4), (1, 3, 5)):
            found = {}
            for r in range(m):
                for row in rows(9):
                    told = wanted(w, (m, r), n, row)
                    if told is not None:
                        # What is left behind one number of bits is so as often for each outcome.
                        outcome, rest, taken = told
                        key = (taken, rest)
                        found.setdefault(key, [0] * n)[outcome] += 1
            for many in found.values():
                self.assertEqual(len(set(many)), 1)


class RowsOfWants(Case):
    """[8.2]: rows of wants, and the sizes of what is left over."""

    def test_all_short_rows(self):
        for wants in ROWS:
            for k in (0, 1, 2, 5, 9):
                for row in rows(k):
                    self.assert_same(row_wanted(3, wants, row), row_followed(3, wants, row))

    def test_by_position_and_by_name(self):
        for w, wants, bits in ((3, (), ()), (3, (), (1, 0)), (1, (2,) * 12, (1, 0) * 6),
                               (12, (64, 63) * 6, (0, 1) * 200), (8, (64,) * 12, (1, 1, 0) * 30),
                               (6, (7, 5, 3, 2), (1,) * 60), (6, (7,), (1,) * 5)):
            self.assert_calls(row_followed(w, wants, bits), row_wanted, w=w, wants=wants, bits=bits)

    def test_known(self):
        self.assert_calls(((), (1, 0), 0), row_wanted, w=5, wants=(), bits=(1, 1))
        self.assert_calls(((1, 0, 1), (1, 0), 3), row_wanted, w=1, wants=(2, 2, 2), bits=(1, 0, 1, 1))
        self.assert_calls(None, row_wanted, w=1, wants=(2, 2, 2), bits=(1, 0))

    def test_rows_are_as_likely(self):
        found = {}
        for row in rows(12):
            told = row_wanted(3, (3, 2, 5), row)
            if told is not None and told[2] <= 11:
                found.setdefault(told[1:], {}).setdefault(told[0], []).append(row)
        for by_outcomes in found.values():
            self.assertEqual(len({len(group) for group in by_outcomes.values()}), 1)
            self.assertEqual(len(by_outcomes), 30)

    def test_sizes(self):
        primes = (63, 61, 59, 53, 47, 43, 41, 37, 31, 29, 23, 19)
        for w, wants in [(3, wants) for wants in ROWS] + [(8, wants) for wants in ROWS] + [
                (1, (2,) * 12), (8, (64,) * 12), (8, primes), (6, (40,) * 12)]:
            found = sizes(w, wants)
            self.assert_calls(found, sizes, w=w, wants=wants)
            own, bits = own_row(w, wants)
            self.assertEqual([m for m, _ in found], sorted(own))
            for m, chance in found:
                self.assertLess(abs(fraction(chance) - own[m]), Fraction(1, 2 ** 100))
            self.assertEqual(sum([fraction(chance) for _, chance in found]), 1)
            self.assertLess(abs(fraction(mean_bits(w, wants)) - bits), Fraction(1, 2 ** 100))

    def test_sizes_row_by_row(self):
        for wants in ((3,), (5, 3), (2, 3, 5)):
            counts, open_rows = {}, 0
            for row in rows(14):
                told = row_wanted(3, wants, row)
                if told is None:
                    open_rows += 1
                else:
                    counts[told[1][0]] = counts.get(told[1][0], 0) + 1
            for m, chance in sizes(3, wants):
                number = fraction(chance) * 2 ** 14
                self.assertTrue(counts.get(m, 0) <= number <= counts.get(m, 0) + open_rows)

    def test_sizes_known(self):
        for w, wants, found in ((1, (), ((1, (1, 1)),)), (3, (2,), ((4, (1, 1)),)), (3, (2, 2), ((4, (1, 1)),)),
                                (3, (8,), ((1, (1, 1)),)), (1, (2, 2), ((1, (1, 1)),)),
                                # 8 is 1 * 5 and 3; behind 3 there are 12, which are 2 * 5 and 2; behind these 8 again.
                                (3, (5,), ((1, (2, 3)), (2, (1, 3))))):
            self.assert_calls(found, sizes, w=w, wants=wants)


class Means(Case):
    """[8.3]: how many bits rows of wants take in the mean."""

    def test_means_known(self):
        for w, wants, number in ((5, (), 0), (1, (2,), 1), (12 - 4, (2,), 8), (8, (2, 2), 9), (3, (8,), 3),
                                 (3, (8, 8), 6), (2, (3, 3), Fraction(16, 3)), (2, (3, 2), Fraction(14, 3)),
                                 # 3 bits; with the chance 3/8 two more; of these with the chance 1/6 two more, anew.
                                 (3, (5,), 3 + Fraction(3, 8) * (2 + Fraction(1, 6) * 2) / (1 - Fraction(1, 16)))):
            self.assert_calls((Fraction(number).numerator, Fraction(number).denominator), mean_bits, w=w, wants=wants)

    def test_means_are_above_the_logarithms(self):
        for w, wants in [(3, wants) for wants in ROWS] + [(8, wants) for wants in ROWS]:
            self.assertGreater(float(fraction(mean_bits(w, wants))) + 1e-9, sum([log2(n) for n in wants]))

    def test_sums_of_tails(self):
        # The mean is the sum of the chances of needing more than k bits: up to 13 each row is followed.
        for w, wants in ((2, (3,)), (3, (3, 2)), (3, (5, 5)), (3, (8, 7))):
            whole = Fraction(0)
            for k in range(14):
                whole += Fraction(len([row for row in rows(k) if row_wanted(w, wants, row) is None]), 2 ** k)
            number = fraction(mean_bits(w, wants))
            self.assertLess(whole, number)
            self.assertLess(number, whole + Fraction(1, 3))

    def test_long_runs(self):
        for w in range(1, 7):
            for n in range(2, min(2 ** w, 40) + 1):
                found = fraction(long_run(w, n))
                self.assertLess(abs(float(found) - own_long_run(w, n)), 1e-9)
                self.assertGreaterEqual(float(found), log2(n) - 1e-12)
        for w, n in ((6, 40), (6, 39), (6, 2), (1, 2), (5, 32), (4, 11)):
            self.assert_calls(long_run(w, n), long_run, w=w, n=n)

    def test_long_runs_known(self):
        for w, power in product(range(1, 7), range(1, 6)):
            if power <= w:
                self.assert_calls((power, 1), long_run, w=w, n=2 ** power)
        self.assert_calls((8, 3), long_run, w=2, n=3)

    def test_long_runs_come_from_means(self):
        for w, n in ((3, 3), (4, 5), (6, 11), (6, 37), (5, 7)):
            many = 40
            later = fraction(mean_bits(w, (n,) * 2 * many)) - fraction(mean_bits(w, (n,) * many))
            self.assertLess(abs(later / many - fraction(long_run(w, n))), Fraction(1, 50))


class Errors(Case):
    """[0.2], "The interface": which errors are raised, in the order of the parameters."""

    def test_wrong_widths_come_first(self):
        for wrong in WRONG_WIDTHS:
            with self.subTest(repr(wrong)[:80]):
                for rest, n, bits in (((1, 0), 2, (1,)), (None, None, None), ((True, 0), 99, [1])):
                    self.assert_bad(BadNumber, wrong, wanted, wrong, rest, n, bits)
                    self.assert_bad(BadNumber, wrong, wanted, bits=bits, n=n, rest=rest, w=wrong)
                    self.assert_bad(BadNumber, wrong, long_run, wrong, n)
                    self.assert_bad(BadNumber, wrong, long_run, n=n, w=wrong)
                for wants in ((2,), (), None, (99,)):
                    self.assert_bad(BadNumber, wrong, sizes, wrong, wants)
                    self.assert_bad(BadNumber, wrong, mean_bits, wrong, wants)
                    self.assert_bad(BadNumber, wrong, sizes, wants=wants, w=wrong)
                    self.assert_bad(BadNumber, wrong, mean_bits, wants=wants, w=wrong)
                    self.assert_bad(BadNumber, wrong, row_wanted, wrong, wants, None)
                    self.assert_bad(BadNumber, wrong, row_wanted, bits=(1,), wants=wants, w=wrong)

    def test_wrong_rests(self):
        for wrong in WRONG_RESTS:
            with self.subTest(repr(wrong)[:80]):
                for n, bits in ((2, (1,)), (None, None), (9, [1])):
                    self.assert_bad(BadRow, wrong, wanted, 3, wrong, n, bits)
                    self.assert_bad(BadRow, wrong, wanted, bits=bits, n=n, rest=wrong, w=3)
        for w in range(1, 13):
            self.assert_bad(BadRow, (2 ** (w + 1), 0), wanted, w, (2 ** (w + 1), 0), 2, ())
            self.assertEqual(wanted(w, (2 ** (w + 1) - 1, 0), 2, ()), (0, (2 ** w - 1, 0), 0))

    def test_wrong_wants(self):
        for wrong in WRONG_WANTS:
            with self.subTest(repr(wrong)[:80]):
                for bits in ((1,), None, [1]):
                    self.assert_bad(BadNumber, wrong, wanted, 3, (1, 0), wrong, bits)
                    self.assert_bad(BadNumber, wrong, wanted, bits=bits, n=wrong, rest=(15, 14), w=3)
                self.assert_bad(BadNumber, wrong, long_run, 3, wrong)
                self.assert_bad(BadNumber, wrong, long_run, n=wrong, w=3)
        for w in range(1, 13):
            most = min(64, 2 ** w)
            self.assert_bad(BadNumber, most + 1, wanted, w, (1, 0), most + 1, (1,) * 20)
            self.assert_bad(BadNumber, most + 1, long_run, w, most + 1)
            self.assert_bad(BadRow, (2, most + 1), sizes, w, (2, most + 1))
            self.assertIsNotNone(wanted(w, (1, 0), most, (0,) * 20))

    def test_wrong_rows(self):
        for wrong in WRONG_ROWS:
            with self.subTest(repr(wrong)[:80]):
                for call in (sizes, mean_bits):
                    self.assert_bad(BadRow, wrong, call, 3, wrong)
                    self.assert_bad(BadRow, wrong, call, wants=wrong, w=3)
                for bits in ((1,), None, [1]):
                    self.assert_bad(BadRow, wrong, row_wanted, 3, wrong, bits)
                    self.assert_bad(BadRow, wrong, row_wanted, bits=bits, wants=wrong, w=3)

    def test_wrong_bits(self):
        for wrong in WRONG_BITS:
            with self.subTest(repr(wrong)[:80]):
                self.assert_bad(BadBits, wrong, wanted, 3, (15, 0), 2, wrong)
                self.assert_bad(BadBits, wrong, wanted, bits=wrong, n=8, rest=(1, 0), w=3)
                for wants in ((), (2, 3)):
                    self.assert_bad(BadBits, wrong, row_wanted, 3, wants, wrong)
                    self.assert_bad(BadBits, wrong, row_wanted, bits=wrong, wants=wants, w=3)


if __name__ == "__main__":
    unittest.main()
