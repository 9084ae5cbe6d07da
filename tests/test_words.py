"""Part 12: words, rows of outcomes spelt and read, and words with the least mean length."""

import random
import unittest
from fractions import Fraction
from itertools import permutations, product

from coins import (AT_ONCE, AT_ONCE_OF_EIGHT, COIN, EIGHTHS, LATE, LOST, MACHINES, NEVER, SMALL, THIRDS_COIN, TRAP,
                   TWICE, WAITING, WRONG_BITS, WRONG_MACHINES, chain, followed, own_chances, rows)
from drawnbits.alike import folded
from drawnbits.best import least_mean
from drawnbits.errors import BadBits, BadMachine, BadNumber, BadRow, BadTable, BadWords, OtherSize
from drawnbits.figures import is_entropy_at_least
from drawnbits.machines import is_machine
from drawnbits.words import (are_full, are_words, first_words, judge_words, least_words, machine_of, mean_length, read,
                             spelt, words_hold, words_of)
from support import (EDGE, EIGHT, HALVES, JUNK, SKEW, SURE, THIRDS, UNEVEN, WRONG_TABLES, Case, fraction, pair,
                     table_of, told)

WORDS = ((0,), (1, 0), (1, 1))
ONLY = ((),)
HOLES = ((1, 0, 0), (0, 1))
# Words of all lengths, full and not; words of 30 bits.
COMB = tuple([(1,) * k + (0,) for k in range(7)]) + ((1,) * 7,)
LONGEST = ((0,) * 30, (0,) * 29 + (1,), (1,) * 30, (1, 0))
ALL_OF_THREE = tuple(product((0, 1), repeat=3))
RIGHT = (WORDS, ONLY, HOLES, COMB, LONGEST, ALL_OF_THREE, ((0,),), ((1,), (0,)), ((1, 1), (1, 0), (0,)), COMB[:-1],
         ALL_OF_THREE[2:], ((0, 1, 1), (0, 1, 0), (1,), (0, 0)))
WRONG_WORDS = [thing for thing in JUNK if thing != ((),)] + [
    (), 0, 1, (0,), (0, 1), ((0,), 1), ((0,), None), [(0,), (1,)], ([0], [1]), ((0,), [1]), ((0,), (0,)), ((), ()),
    ((), (0,)), ((0,), ()), ((0,), (0, 1)), ((0, 1), (0,)), ((0, 1, 1), (1,), (0, 1)), ((1, 1), (0,), (1, 1)),
    ((True,), (0,)), ((0,), (1, False)), ((2,), (0,)), ((0,), (-1,)), (("0",), ("1",)), ("0", "1"), (((0,),),),
    {(0,): 0}, ((0.0,), (1,)), ALL_OF_THREE + ((0, 0, 0),), tuple([(1,) * k + (0,) for k in range(9)]),
    ((0,), (1, 0), (1, 0)), (((),),), ((0,), (10 ** 99,))]
WRONG_LENGTHS = JUNK + (
    (), 0, 1, [1, 1], (31,), (-1,), (1, 31), (True,), (1, False), ("1",), (1, None), ((1,),), (10 ** 99,), (0,) * 9,
    (4,) * 9, {0: 1}, (1.0,), "11", (1, (1,)))
DYADIC = (((1, 2), (1, 4), (1, 4)), HALVES, EIGHT, SURE, ((1, 4), (1, 8), (1, 2), (1, 8)), (
    (1, 2 ** 7), (1, 2 ** 7), (1, 64), (1, 32), (1, 16), (1, 8), (1, 4), (1, 2)))
TABLES = DYADIC + (THIRDS, EDGE, SKEW, UNEVEN, ((1, 3), (2, 3)), ((0, 1), (0, 1), (1, 1)), ((0, 1),) * 7 + ((1, 1),), (
    (1, 2 ** 30), (2 ** 30 - 1, 2 ** 30), (0, 1)), ((1, 1000), (499, 500), (1, 1000)), (
    (2, 5), (1, 5), (1, 5), (1, 10), (1, 10)), ((1, 5),) * 5)


def own_first_words(lengths):
    """The first words: all rows of a length are looked through, each for all that the document asks."""
    found = {}
    for length, i in sorted([(length, i) for i, length in enumerate(lengths)]):
        right = [row for row in rows(length) if all([row > word for word in found.values()])
                 and not any([row[:len(word)] == word for word in found.values()])]
        if not right:
            return None
        found[i] = min(right)
    return tuple([found[i] for i in range(len(lengths))])


def own_least(table):
    """The least mean length, by all lengths with which there are words (of n words none has to be longer than n)."""
    n = len(table)
    numbers = sorted(told(table), reverse=True)
    found = []
    for lengths in all_lengths(n, n):
        if sum([Fraction(1, 2 ** length) for length in lengths]) <= 1:
            found.append(sum([number * length for number, length in zip(numbers, lengths)]))
    return min(found)


def all_lengths(many, most, least=0):
    """All ascending rows of so many lengths."""
    if many == 0:
        return [()]
    return [(length,) + more for length in range(least, most + 1) for more in all_lengths(many - 1, most, length)]


def own_read(words, bits):
    found = []
    while True:
        begun = [i for i, word in enumerate(words) if len(word) > 0 and bits[:len(word)] == word]
        if not begun:
            return (tuple(found), bits)
        found.append(begun[0])
        bits = bits[len(words[begun[0]]):]


class Examples(Case):
    """The examples of drawnbits/words.py, as the document has them."""

    def test_first(self):
        self.assert_same(
            [first_words((1, 2, 2)), first_words((2, 1, 3)), first_words((1, 1, 1)), are_words(((0,), (0, 1))),
             are_full(WORDS), are_full(((0,), (1, 0))), spelt(WORDS, (2, 0, 1)), read(WORDS, (1, 1, 0, 1))],
            [((0,), (1, 0), (1, 1)), ((1, 0), (0,), (1, 1, 0)), None, False, True, False, (1, 1, 0, 1, 0),
             ((2, 0), (1,))])

    def test_second(self):
        table = ((1, 2), (1, 4), (1, 4))
        self.assert_same(
            [mean_length(WORDS, table), judge_words(WORDS, table),
             words_hold(((1, 1), (1, 0), (0,)), table, ('less', WORDS)), machine_of(WORDS),
             words_of((2, (('toss', 1, 2), ('out', 0), ('toss', 3, 2), ('out', 1))))],
            [(3, 2), ('least',), True, (3, (('toss', 1, 2), ('out', 0), ('toss', 3, 4), ('out', 1), ('out', 2))), None])


class Words(Case):
    """[12.1]: words, full words, first words."""

    def test_all_small_ones(self):
        short = [row for k in range(3) for row in rows(k)]
        for many in (1, 2, 3):
            for thing in product(short, repeat=many):
                right = not [1 for one, other in permutations(thing, 2) if other[:len(one)] == one]
                self.assertIs(are_words(thing), right)
                if right:
                    self.assertIs(are_full(thing), sum([Fraction(1, 2 ** len(word)) for word in thing]) == 1)

    def test_right_and_wrong_ones(self):
        for thing in RIGHT:
            self.assert_calls(True, are_words, thing=thing)
            self.assert_calls(sum([Fraction(1, 2 ** len(word)) for word in thing]) == 1, are_full, words=thing)
        for thing in WRONG_WORDS:
            with self.subTest(repr(thing)[:80]):
                self.assert_calls(False, are_words, thing=thing)

    def test_full_at_the_edges(self):
        for words, right in ((ONLY, True), (((0,),), False), (COMB, True), (COMB[:-1], False), (LONGEST, False),
                             (ALL_OF_THREE, True), (ALL_OF_THREE[1:], False), (((1,) * 30,), False)):
            self.assert_calls(right, are_full, words=words)

    def test_first_words(self):
        for many in range(1, 5):
            for lengths in product(range(5 if many < 4 else 4), repeat=many):
                found = first_words(lengths)
                self.assert_same(found, own_first_words(lengths))
                self.assertIs(found is None, sum([Fraction(1, 2 ** length) for length in lengths]) > 1)
                self.assertIs(found is None or are_words(found), True)

    def test_first_words_at_the_edges(self):
        for lengths, found in (((0,), ONLY), ((0, 0), None), ((0, 30), None), ((30,), ((0,) * 30,)), (
                (1,), ((0,),)), ((3,) * 8, ALL_OF_THREE), ((1, 2, 3, 4, 5, 6, 7, 7), COMB), (
                (1, 2, 3, 4, 5, 6, 7, 6), None), (
                (30, 30, 1), ((1,) + (0,) * 29, (1,) + (0,) * 28 + (1,), (0,))), ((1, 1, 30), None), (
                (1, 2, 30), ((0,), (1, 0), (1, 1) + (0,) * 28))):
            self.assert_calls(found, first_words, lengths=lengths)
        turned = first_words((7, 7, 6, 5, 4, 3, 2, 1))
        self.assert_same(turned, ((1,) * 6 + (0,), (1,) * 7) + COMB[5::-1])

    def test_long_first_words(self):
        source = random.Random(4)
        for _ in range(200):
            lengths = tuple([source.randrange(1, 31) for _ in range(source.randrange(1, 9))])
            found = first_words(lengths)
            self.assertIs(found is None, sum([Fraction(1, 2 ** length) for length in lengths]) > 1)
            if found is not None:
                self.assertIs(are_words(found), True)
                self.assertEqual(tuple([len(word) for word in found]), lengths)
                ordered = [word for _, _, word in sorted([(len(word), i, word) for i, word in enumerate(found)])]
                self.assertEqual(ordered, sorted(ordered))


class Rows(Case):
    """[12.2]: rows of outcomes, spelt and read."""

    def test_spelt_and_read(self):
        source = random.Random(5)
        for words in RIGHT:
            for many in (0, 1, 2, 13, 60):
                row = tuple([source.randrange(len(words)) for _ in range(many)])
                bits = tuple([bit for i in row for bit in words[i]])
                self.assert_calls(bits, spelt, words=words, row=row)
                self.assert_calls((row if words != ONLY else (), ()), read, words=words, bits=bits)

    def test_all_short_rows(self):
        for words in RIGHT:
            for k in range(8):
                for row in rows(k):
                    self.assert_same(read(words, row), own_read(words, row))

    def test_known(self):
        for words, bits, found in ((ONLY, (1, 0, 1), ((), (1, 0, 1))), (ONLY, (), ((), ())), (((0,),), (0, 0, 1, 0), (
                (0, 0), (1, 0))), (HOLES, (0, 0), ((), (0, 0))), (HOLES, (0, 1, 1, 0, 1), ((1,), (1, 0, 1))), (
                COMB, (1,) * 400, ((7,) * 57, (1,))), (LONGEST, (0,) * 400, ((0,) * 13, (0,) * 10))):
            self.assert_calls(found, read, words=words, bits=bits)
        self.assert_calls((), spelt, words=ONLY, row=(0,) * 60)
        self.assert_calls((0,) * 1800, spelt, words=LONGEST, row=(0,) * 60)


class Least(Case):
    """[12.3]: mean lengths, and the least ones."""

    def test_mean_lengths(self):
        for words in RIGHT:
            for table in TABLES:
                if len(words) == len(table):
                    number = sum([chance * len(word) for chance, word in zip(told(table), words)])
                    self.assert_calls(pair(number), mean_length, words=words, table=table)

    def test_least_words(self):
        for table in TABLES:
            found = least_words(table)
            self.assert_calls(found, least_words, table=table)
            self.assertIs(are_words(found), True)
            self.assertEqual(fraction(mean_length(found, table)), own_least(table))
            self.assert_calls(("least",), judge_words, words=found, table=table)
            self.assert_calls(True, words_hold, words=found, table=table, thing=("least",))

    def test_least_words_at_random(self):
        source = random.Random(6)
        for _ in range(150):
            numbers = [source.choice((0, 1, 1, 2, 3, 5, 8, 20)) for _ in range(source.randrange(1, 7))]
            numbers[0] += 1
            table = table_of([Fraction(number, sum(numbers)) for number in numbers])
            self.assertEqual(fraction(mean_length(least_words(table), table)), own_least(table))

    def test_entropy_and_one_more(self):
        for table in (THIRDS, SKEW, ((1, 3), (2, 3)), EIGHT, HALVES, ((2, 5), (1, 5), (1, 5), (1, 10), (1, 10))):
            just = fraction(mean_length(least_words(table), table))
            # The entropy is at least one less, and not more.
            self.assertTrue(is_entropy_at_least(table, pair(just - 1)))
            self.assertFalse(is_entropy_at_least(table, pair(just + Fraction(1, 20))))
        for table in DYADIC:
            self.assert_same(mean_length(least_words(table), table), least_mean(table))

    def test_judged(self):
        for words in RIGHT:
            for table in TABLES:
                if len(words) == len(table):
                    found = judge_words(words, table)
                    is_least = sum([chance * len(word) for chance, word in zip(told(table), words)]) == own_least(table)
                    self.assertIs(found == ("least",), is_least)
                    self.assert_calls(found, judge_words, words=words, table=table)
                    self.assert_calls(True, words_hold, words=words, table=table, thing=found)
                    self.assert_calls(is_least, words_hold, words=words, table=table, thing=("least",))
                    for other in RIGHT:
                        lengths = [[len(word) for word in both] for both in (words, other)]
                        means = [sum([chance * length for chance, length in zip(told(table), row)]) for row in lengths]
                        right = len(other) == len(table) and means[1] < means[0]
                        self.assertIs(words_hold(words, table, ("less", other)), right)

    def test_known(self):
        for words, table, number, found in ((ONLY, SURE, 0, ("least",)), (((0,),), SURE, 1, ("less", ONLY)), (
                ((1,), (0,)), EDGE, 1, ("least",)), (WORDS, THIRDS, Fraction(5, 3), ("least",)), (
                # An outcome of the chance 0 may have any word.
                ((0, 0), (1,)), EDGE, 1, ("least",)), (COMB, EIGHT, Fraction(35, 8), ("less", ALL_OF_THREE))):
            self.assert_calls(pair(number), mean_length, words=words, table=table)
            self.assert_calls(found, judge_words, words=words, table=table)

    def test_things_that_are_no_certificates(self):
        table = ((1, 2), (1, 4), (1, 4))
        worse = ((1, 1), (1, 0), (0,))
        things = JUNK + (
            (), "least", ["least"], ("Least",), ("least", ()), ("least", WORDS), (("least",),), "less", ("less",),
            ["less", WORDS], ("Less", WORDS), ("less", WORDS, ()), (("less", WORDS),), ("less", list(WORDS)),
            ("less", ([0], (1, 0), (1, 1))), ("less", ((False,), (1, 0), (1, 1))), ("less", ((0,), (0, 1), (1, 1))),
            ("less", WORDS[:2]), ("less", WORDS + ((0, 0),)), ("less", worse), ("less", None), ("less", ()),
            (WORDS, "less"), {"less": WORDS}, (0, WORDS), (None, WORDS), ("less", ONLY),
            ("less", ((0, 0), (0, 1), (1,))), ("less", "0"))
        for thing in things:
            with self.subTest(repr(thing)[:80]):
                self.assert_calls(False, words_hold, words=worse, table=table, thing=thing)
        self.assert_calls(True, words_hold, words=worse, table=table, thing=("less", WORDS))
        self.assert_calls(False, words_hold, words=worse, table=table, thing=("least",))
        for thing in WRONG_WORDS:
            self.assert_calls(False, words_hold, words=worse, table=table, thing=("less", thing))


class WordsAsMachines(Case):
    """[12.4]: full words as machines, and machines that have words."""

    def test_machines_of_words(self):
        for words in RIGHT:
            if sum([Fraction(1, 2 ** len(word)) for word in words]) == 1:
                machine = machine_of(words)
                self.assert_calls(machine, machine_of, words=words)
                self.assertIs(is_machine(machine), True)
                self.assert_same(folded(machine), machine)
                for i, word in enumerate(words):
                    self.assertEqual(followed(machine, word), (i, len(word)))
                chances, number = own_chances(machine)
                self.assertEqual(chances[0], [Fraction(1, 2 ** len(word)) for word in words])
                self.assertEqual(number, sum([Fraction(len(word), 2 ** len(word)) for word in words]))
                self.assert_calls(words, words_of, machine=machine)

    def test_all_small_full_words(self):
        short = [row for k in range(4) for row in rows(k)]
        for many in (1, 2, 3, 4):
            for words in product(short, repeat=many) if many < 4 else permutations(short[1:], 4):
                if sum([Fraction(1, 2 ** len(word)) for word in words]) == 1 and are_words(words):
                    self.assert_same(words_of(machine_of(words)), words)

    def test_words_of_machines(self):
        for machine in MACHINES + tuple(SMALL):
            ends = {}
            for k in range(10):
                for row in rows(k):
                    run = followed(machine, row)
                    if run is not None and run[1] == k:
                        ends.setdefault(run[0], []).append(row)
            # What does not end within 9 bits has no words: those of 8 outcomes have at most 7.
            has_words = sorted(ends) == list(range(machine[0])) and all([len(found) == 1 for found in ends.values()])
            has_words = has_words and all([followed(machine, row) is not None for row in rows(9)])
            wanted = tuple([ends[i][0] for i in range(machine[0])]) if has_words else None
            self.assert_same(words_of(machine), wanted)

    def test_known(self):
        for machine, found in ((AT_ONCE, ONLY), (AT_ONCE_OF_EIGHT, None), (COIN, ((0,), (1,))), (EIGHTHS, ALL_OF_THREE),
                               (LATE, None), (TWICE, None), (THIRDS_COIN, None), (LOST, None), (NEVER, None),
                               (TRAP, None), (WAITING, None), (chain(60), None), (chain(3), ((0,), (1,))),
                               ((2, (("toss", 1, 2), ("out", 1), ("out", 0))), ((1,), (0,))),
                               ((3, (("toss", 1, 2), ("out", 1), ("out", 0))), None)):
            self.assert_calls(found, words_of, machine=machine)

    def test_a_fourth_row_of_two_bits(self):
        tosses, outs = (("toss", 1, 2), ("toss", 3, 4), ("toss", 5, 6)), (("out", 2), ("out", 0), ("out", 1))
        for last in (("out", 0), ("out", 2), ("toss", 6, 6), ("toss", 3, 4), ("toss", 0, 0), ("toss", 5, 6)):
            self.assert_calls(None, words_of, machine=(3, tosses + outs + (last,)))
        words = ((0, 1), (1, 0), (0, 0), (1, 1))
        self.assert_calls(words, words_of, machine=(4, tosses + outs + (("out", 3),)))


class Errors(Case):
    """[0.2], "The interface": which errors are raised, in the order of the parameters."""

    def test_wrong_words_come_first(self):
        for wrong in WRONG_WORDS:
            with self.subTest(repr(wrong)[:80]):
                for call in (are_full, machine_of):
                    self.assert_bad(BadWords, wrong, call, wrong)
                    self.assert_bad(BadWords, wrong, call, words=wrong)
                for more in ((), None, HALVES, (0, 9)):
                    self.assert_bad(BadWords, wrong, spelt, wrong, more)
                    self.assert_bad(BadWords, wrong, spelt, row=more, words=wrong)
                    self.assert_bad(BadWords, wrong, read, wrong, more)
                    self.assert_bad(BadWords, wrong, read, bits=more, words=wrong)
                    for call in (mean_length, judge_words):
                        self.assert_bad(BadWords, wrong, call, wrong, more)
                        self.assert_bad(BadWords, wrong, call, table=more, words=wrong)
                    self.assert_bad(BadWords, wrong, words_hold, wrong, more, None)
                    self.assert_bad(BadWords, wrong, words_hold, thing=("least",), table=more, words=wrong)

    def test_wrong_lengths(self):
        for wrong in WRONG_LENGTHS:
            with self.subTest(repr(wrong)[:80]):
                self.assert_bad(BadNumber, wrong, first_words, wrong)
                self.assert_bad(BadNumber, wrong, first_words, lengths=wrong)

    def test_wrong_rows(self):
        for wrong in [thing for thing in JUNK if thing != ()] + [
                0, [0], (3,), (-1,), (0, 3), (True,), (0, False), "0", ("0",), ((0,),), (None,), (10 ** 99,), (0.0,),
                {0: 0}]:
            with self.subTest(repr(wrong)[:80]):
                self.assert_bad(BadRow, wrong, spelt, WORDS, wrong)
                self.assert_bad(BadRow, wrong, spelt, row=wrong, words=WORDS)
        self.assert_bad(BadRow, (1,), spelt, ONLY, (1,))

    def test_wrong_bits(self):
        for wrong in WRONG_BITS:
            for words in (WORDS, ONLY):
                self.assert_bad(BadBits, wrong, read, words, wrong)
                self.assert_bad(BadBits, wrong, read, bits=wrong, words=words)

    def test_wrong_tables(self):
        for wrong in WRONG_TABLES:
            with self.subTest(repr(wrong)[:80]):
                for call in (mean_length, judge_words):
                    self.assert_bad(BadTable, wrong, call, WORDS, wrong)
                    self.assert_bad(BadTable, wrong, call, table=wrong, words=WORDS)
                self.assert_bad(BadTable, wrong, words_hold, WORDS, wrong, ("least",))
                self.assert_bad(BadTable, wrong, words_hold, thing=None, table=wrong, words=WORDS)
                self.assert_bad(BadTable, wrong, least_words, wrong)
                self.assert_bad(BadTable, wrong, least_words, table=wrong)

    def test_other_sizes(self):
        for words, table in ((WORDS, HALVES), (WORDS, SURE), (ONLY, HALVES), (COMB, THIRDS), (HOLES, EIGHT)):
            for call in (mean_length, judge_words):
                self.assert_bad(OtherSize, table, call, words, table)
                self.assert_bad(OtherSize, table, call, table=table, words=words)
            for thing in (None, ("least",)):
                self.assert_bad(OtherSize, table, words_hold, words, table, thing)

    def test_words_that_are_not_full(self):
        for words in (HOLES, LONGEST, ((0,),), COMB[:-1], ALL_OF_THREE[1:]):
            self.assert_bad(OtherSize, words, machine_of, words)
            self.assert_bad(OtherSize, words, machine_of, words=words)

    def test_wrong_machines(self):
        for wrong in WRONG_MACHINES:
            with self.subTest(repr(wrong)[:80]):
                self.assert_bad(BadMachine, wrong, words_of, wrong)
                self.assert_bad(BadMachine, wrong, words_of, machine=wrong)


if __name__ == "__main__":
    unittest.main()
