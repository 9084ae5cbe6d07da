"""Part 11: the coder in registers."""

import unittest
from fractions import Fraction

from coins import WRONG_BITS, rows
from drawnbits.errors import BadBits, BadModel, BadNumber, BadWay
from drawnbits.registers import (judge_waiting, real_chance, register_behind, waiting_holds, way_read, written)
from support import HALVES, JUNK, WRONG_NUMBERS, Case, pair, told
from ways import (ALONE, ALONE_OF_THREE, ALWAYS_LAST, DYADIC, FAIR, FINE, FIVE, IN_TURN, MODELS, NEVER_COME_TO, ONE,
                  SEVENTEENTHS, SIX, WRONG_MODELS, WRONG_ROWS_OF_TWO, own_ways, some_models, some_way)

WRONG_WIDTHS = JUNK + (0, 1, 2, 17, 18, (3,), "3", 10 ** 99, (), 3.0, [3])
# A bit waits for each outcome 1, so ever more of them if no other outcome comes.
MIDDLE = ((((1, 4), (1, 2), (1, 4)), (0, 0, 0)),)
NO_WAYS = ((ALWAYS_LAST, (0,)), (IN_TURN, (1, 0, 0)), (NEVER_COME_TO, (0, 2, 1, 2, 2)), (ALONE, (1,)))


def own_fits(model, w):
    least = min([chance for table, _ in model for chance in told(table) if chance > 0])
    return least * (2 ** w // 4 + 1) >= 1


def widths(model, most):
    return [w for w in range(3, most + 1) if own_fits(model, w)]


class Own:
    """A register coder of the tests' own: one outcome after the other, one case after the other."""

    def __init__(self, model, w):
        self.model, self.w = model, w
        self.whole, self.half, self.quarter = 2 ** w, 2 ** w // 2, 2 ** w // 4
        self.at, self.low, self.size, self.waiting = 0, 0, self.whole, 0
        self.out, self.real = [], Fraction(1)

    def ends(self, i):
        chances = told(self.model[self.at][0])
        low = sum(chances[:i], Fraction(0))
        return int(self.size * low // 1), int(self.size * (low + chances[i]) // 1)

    def send(self, bit):
        self.out += [bit] + [1 - bit] * self.waiting
        self.waiting = 0

    def write(self, i, on_taken=lambda base: None):
        a, b = self.ends(i)
        self.real *= Fraction(b - a, self.size)
        self.low, self.size, self.at = self.low + a, b - a, self.model[self.at][1][i]
        while True:
            base = None
            if self.low + self.size <= self.half:
                base = 0
                self.send(0)
            elif self.low >= self.half:
                base = self.half
                self.send(1)
            elif self.low >= self.quarter and self.low + self.size <= self.half + self.quarter:
                base = self.quarter
                self.waiting += 1
            if base is None:
                return
            self.low, self.size = 2 * (self.low - base), 2 * self.size
            on_taken(base)

    def behind(self):
        return (self.low, self.size, self.waiting)

    def end(self):
        if self.behind() == (0, self.whole, 0):
            return tuple(self.out)
        bit = 0 if self.low < self.quarter else 1
        return tuple(self.out + [bit] + [1 - bit] * (self.waiting + 1))

    def read(self, bits, k):
        left = list(bits) + [0] * 9000
        self.value = 0
        for _ in range(self.w):
            self.value = 2 * self.value + left.pop(0)

        def take_off(base):
            self.value = 2 * (self.value - base) + left.pop(0)
        way = []
        for _ in range(k):
            for i in range(len(self.model[self.at][0])):
                a, b = self.ends(i)
                if a <= self.value - self.low < b:
                    way.append(i)
                    break
            self.write(way[-1], take_off)
        return tuple(way)


def own(model, w, way):
    found = Own(model, w)
    for i in way:
        found.write(i)
    return found


class Examples(Case):
    """The examples of drawnbits/registers.py, as the document has them."""

    def test_all(self):
        self.assert_same(
            [register_behind(ONE, 3, (1,)), register_behind(ONE, 3, (1, 0)), written(ONE, 3, (1, 0)),
             written(ONE, 3, (1,)), way_read(ONE, 3, (0, 1), 2), real_chance(ONE, 3, (1, 0)),
             judge_waiting(ONE, 3)[:2]],
            [(2, 6, 0), (0, 8, 0), (0, 1), (1, 0), (1, 0), (1, 4), ('most', 0)])


class Registers(Case):
    """[11.1]: registers, and which widths fit."""

    def test_step_by_step(self):
        for model in MODELS:
            for w in widths(model, 8):
                for k in range(4):
                    for way, _, _ in own_ways(model, k)[:120]:
                        self.assert_same(register_behind(model, w, way), own(model, w, way).behind())

    def test_long_ways(self):
        for model in MODELS:
            for w in widths(model, 16):
                way = some_way(model, 40, w)
                found = own(model, w, way).behind()
                self.assert_calls(found, register_behind, model=model, w=w, way=way)
                self.assertGreater(found[1], 2 ** w // 4)

    def test_which_widths_fit(self):
        for model in MODELS:
            for w in range(1, 20):
                if 3 <= w <= 16 and own_fits(model, w):
                    self.assert_same(register_behind(model, w, ()), (0, 2 ** w, 0))
                else:
                    self.assert_bad(BadNumber, w, register_behind, model, w, ())
        # 1/3 and 1/5 just fit: 3 times 1/3 is 1 with w = 3, 5 times 1/5 with w = 4.
        fifths = ((((1, 5), (4, 5)), (0, 0)),)
        for model, w, right in ((ONE, 3, True), (fifths, 3, False), (fifths, 4, True), (SEVENTEENTHS, 5, False),
                                (SEVENTEENTHS, 6, True), (FINE, 8, False), (FINE, 9, True), (ALONE, 3, True),
                                (ALWAYS_LAST, 3, True), ((ONE[0], (((1, 9), (8, 9)), (0, 0))), 4, False)):
            for more in ((), None, (True,)):
                if right:
                    self.assert_calls((0, 2 ** w, 0), register_behind, model=model, w=w, way=())
                else:
                    self.assert_bad(BadNumber, w, register_behind, model, w, more)

    def test_known(self):
        for model, w, way, found in ((ALONE, 3, (0,) * 40, (0, 8, 0)), (ALWAYS_LAST, 16, (1,) * 40, (0, 65536, 0)),
                                     (FAIR, 3, (1, 0, 1), (0, 8, 0)), (ONE, 3, (0,), (0, 8, 0)),
                                     (MIDDLE, 4, (1,), (0, 16, 1)), (MIDDLE, 4, (1,) * 40, (0, 16, 40)),
                                     (MIDDLE, 16, (1,) * 40 + (0,), (0, 65536, 0))):
            self.assert_calls(found, register_behind, model=model, w=w, way=way)


class WrittenAndRead(Case):
    """[11.2] and [11.3]: what is written, and read back."""

    def test_step_by_step(self):
        for model in MODELS:
            for w in widths(model, 7):
                for k in range(4):
                    for way, _, _ in own_ways(model, k)[:80]:
                        self.assert_same(written(model, w, way), own(model, w, way).end())

    def test_read_back(self):
        for model in MODELS:
            for w in widths(model, 16):
                for many in (0, 1, 3, 40):
                    way = some_way(model, many, w + many)
                    bits = written(model, w, way)
                    self.assert_calls(own(model, w, way).end(), written, model=model, w=w, way=way)
                    for more in ((), (0,), (1,), (1, 1, 0, 1), (0,) * 40, (1,) * 40):
                        self.assert_same(way_read(model, w, bits + more, many), way)

    def test_all_short_rows(self):
        for model in MODELS:
            for w in widths(model, 6):
                for m in (0, 1, 2, 6):
                    for row in list(rows(m))[::1 if m < 6 else 5]:
                        self.assert_same(way_read(model, w, row, 4), Own(model, w).read(row, 4))

    def test_long_rows(self):
        for model in MODELS:
            for w in widths(model, 16)[::4]:
                for bits, k in (((1, 0, 0, 1, 1) * 80, 400), ((0,) * 400, 40), ((1,) * 400, 40), ((), 400), ((1,), 0)):
                    self.assert_calls(Own(model, w).read(bits, k), way_read, model=model, w=w, bits=bits, k=k)

    def test_known(self):
        for model, w, way, bits in ((ONE, 3, (), ()), (ALONE, 3, (0,) * 40, ()), (FAIR, 3, (1, 0, 1), (1, 0, 1)),
                                    (ONE, 3, (0,), (0, 0)), (MIDDLE, 4, (1,), (0, 1, 1)),
                                    (MIDDLE, 4, (1, 0), (0, 1, 0)), (MIDDLE, 4, (1, 2), (1, 0, 1)),
                                    (MIDDLE, 4, (1,) * 40, (0,) + (1,) * 41), (ALWAYS_LAST, 3, (1,) * 9, ())):
            self.assert_calls(bits, written, model=model, w=w, way=way)
            self.assert_calls(way, way_read, model=model, w=w, bits=bits, k=len(way))
        self.assert_calls((0,) * 400, way_read, model=ALONE_OF_THREE, w=16, bits=(1, 0), k=400)
        self.assert_calls((), way_read, model=SIX, w=16, bits=(1, 0), k=0)


class RealChances(Case):
    """[11.4]: what is really drawn."""

    def test_step_by_step(self):
        for model in MODELS:
            for w in widths(model, 8):
                for k in range(4):
                    for way, _, _ in own_ways(model, k)[:60]:
                        self.assert_same(real_chance(model, w, way), pair(own(model, w, way).real))

    def test_they_add_up(self):
        for model in MODELS:
            for w in widths(model, 6):
                for k in range(3):
                    self.assertEqual(sum([own(model, w, way).real for way, _, _ in own_ways(model, k)]), 1)

    def test_near_the_chances(self):
        for model in MODELS:
            for w in widths(model, 16)[::3]:
                way = some_way(model, 12, w)
                before = Fraction(1)
                for k in range(1, 13):
                    real = Fraction(*real_chance(model, w, way[:k]))
                    at = 0
                    for i in way[:k - 1]:
                        at = model[at][1][i]
                    chance = told(model[at][0])[way[k - 1]]
                    self.assertLess(abs(real / before - chance), Fraction(1, 2 ** w // 4))
                    before = real
                self.assert_calls(pair(before), real_chance, model=model, w=w, way=way)

    def test_rows_of_bits(self):
        # All rows of m bits: each way is read from as many as its real chance tells, if m is great enough.
        for model, w, k, m in ((ONE, 3, 2, 9), (FAIR, 3, 3, 8), (DYADIC, 5, 2, 10), (IN_TURN, 4, 3, 8),
                               (NEVER_COME_TO, 4, 2, 9)):
            counts = {}
            for row in rows(m):
                way = way_read(model, w, row, k)
                counts[way] = counts.get(way, 0) + 1
            for way, _, _ in own_ways(model, k):
                real = own(model, w, way).real
                self.assertLessEqual(abs(Fraction(counts.get(way, 0), 2 ** m) - real), Fraction(1, 50))

    def test_known(self):
        for model, w, way, number in ((ONE, 3, (), 1), (ONE, 3, (0,), Fraction(1, 4)), (ONE, 3, (1,), Fraction(3, 4)),
                                      (ALONE, 3, (0,) * 40, 1), (FAIR, 16, (1, 0) * 20, Fraction(1, 2 ** 40)),
                                      (ALWAYS_LAST, 3, (1,) * 40, 1)):
            self.assert_calls(pair(number), real_chance, model=model, w=w, way=way)


def own_most(model, w, most):
    """The most bits that wait behind any way; None as soon as more than most wait."""
    seen = {}
    left = [()]
    start = Own(model, w)
    states = {(): (0, start.low, start.size, 0)}
    greatest = 0
    while left:
        way = left.pop()
        at, low, size, waiting = states.pop(way)
        if (at, low, size, waiting) in seen:
            continue
        seen[at, low, size, waiting] = True
        greatest = max(greatest, waiting)
        if waiting > most:
            return None
        for i, chance in enumerate(model[at][0]):
            if chance[0] > 0:
                step = Own(model, w)
                step.at, step.low, step.size, step.waiting = at, low, size, waiting
                step.write(i)
                states[way + (i,)] = (step.at,) + step.behind()
                left.append(way + (i,))
    return greatest


class Waiting(Case):
    """[11.5]: how much can wait."""

    def check_grows(self, model, w, way, more):
        one, other = own(model, w, way), own(model, w, way + more)
        self.assertEqual((one.at, one.low, one.size, one.out), (other.at, other.low, other.size, other.out))
        self.assertGreater(other.waiting, one.waiting)

    def check_model(self, model, w):
        found = judge_waiting(model, w)
        self.assertIs(waiting_holds(model, w, found), True)
        if found[0] == "grows":
            word, way, more = found
            self.check_grows(model, w, way, more)
            self.assertIsNone(own_most(model, w, 60))
            for number in (0, 1, 5):
                self.assertIs(waiting_holds(model, w, ("most", number, way)), False)
            return found
        word, number, way = found
        self.assertEqual(word, "most")
        self.assertEqual(own(model, w, way).waiting, number)
        self.assertEqual(own_most(model, w, 200), number)
        for other in (number - 1, number + 1):
            self.assertIs(waiting_holds(model, w, ("most", other, way)), False)
        for other in ((), way[:-1], way[:len(way) // 2], some_way(model, 6, number)):
            right = own(model, w, other).waiting == number
            self.assertIs(waiting_holds(model, w, ("most", number, other)), right)
        return found

    def test_all(self):
        words = set()
        for model in MODELS + tuple(some_models(9, 20)):
            for w in widths(model, 6):
                words.add(self.check_model(model, w)[0])
        self.assertEqual(words, {"most", "grows"})

    def test_by_position_and_by_name(self):
        for model in MODELS:
            for w in widths(model, 6)[:1]:
                found = judge_waiting(model, w)
                self.assert_calls(found, judge_waiting, model=model, w=w)
                self.assert_calls(True, waiting_holds, model=model, w=w, thing=found)

    def test_known(self):
        for model, w, way, more, right in (
                (MIDDLE, 4, (), (1,), True), (MIDDLE, 4, (1,), (1, 1), True), (MIDDLE, 6, (0, 2), (1,), True),
                (MIDDLE, 4, (), (), False), (MIDDLE, 4, (), (0,), False), (MIDDLE, 4, (), (1, 0), False),
                (MIDDLE, 4, (), (0, 1), False), (MIDDLE, 4, (1,), (0, 1), False),
                (MIDDLE, 4, (1, 1), (0, 1, 1, 1), False),
                (FAIR, 3, (), (1,), False), (FAIR, 3, (), (0, 1), False), (ALONE, 3, (), (0,), False),
                (ONE, 3, (), (1,), False)):
            self.assert_calls(right, waiting_holds, model=model, w=w, thing=("grows", way, more))
        for model, w, number, way, right in (
                (FAIR, 3, 0, (), True), (FAIR, 3, 0, (1, 0, 1), True), (ALONE, 3, 0, (), True),
                (ALONE, 3, 1, (), False),
                (ONE, 3, 0, (1, 0), True), (MIDDLE, 4, 0, (), False), (MIDDLE, 4, 1, (1,), False),
                (MIDDLE, 4, 40, (1,) * 40, False), (ALWAYS_LAST, 3, 0, (1, 1), True), (ALWAYS_LAST, 3, 0, (0,), False)):
            self.assert_calls(right, waiting_holds, model=model, w=w, thing=("most", number, way))

    def test_all_short_ways(self):
        for model, w in ((ONE, 4), (ONE, 5), (FIVE, 6), (DYADIC, 5), (SIX, 5), (MIDDLE, 4)):
            found = judge_waiting(model, w)
            short = [way for k in range(4) for way, _, _ in own_ways(model, k)][:70]
            for way in short:
                number = own(model, w, way).waiting
                for other in (number, number + 1, 0):
                    right = found[0] == "most" and other == number == found[1]
                    self.assertIs(waiting_holds(model, w, ("most", other, way)), right)
                for both in short:
                    if both[:len(way)] == way:
                        one, other = own(model, w, way), own(model, w, both)
                        right = (one.at, one.low, one.size, one.out) == (other.at, other.low, other.size, other.out)
                        right = right and other.waiting > one.waiting
                        thing = ("grows", way, both[len(way):])
                        self.assertIs(waiting_holds(model, w, thing), right)

    def test_things_that_are_no_certificates(self):
        right = judge_waiting(ONE, 4)
        self.assertEqual(right[0], "most")
        number, way = right[1:]
        things = JUNK + (
            (), "most", ("most",), ("most", number), list(right), ("Most", number, way), (right,), right + ((),),
            ("most", number, list(way)), ("most", str(number), way), ("most", (number,), way), ("most", way, number),
            ("most", True, way), ("most", number, None), ("most", number, way + (2,)), ("most", number, way + (True,)),
            ("most", None, way), ("most", number + 1, way), ("most", -1, way), ("most", 10 ** 99, way), "grows",
            ("grows",), ("grows", ()), ("grows", (), ()), ("grows", way, ()), ("grows", (), (2,)), (number, way),
            ("grows", [], (1,)), ("grows", (), [1]), ("grows", number, way), ("grows", (0, 1), None), (0, number, way),
            {"most": number}, (None, number, way), ("most", [number], way), ("grows", None, (1,)))
        for thing in things:
            with self.subTest(repr(thing)[:80]):
                self.assert_calls(False, waiting_holds, model=ONE, w=4, thing=thing)
        for thing in (("grows", [], (1,)), ("grows", (), [1]), ("grows", (), (True,)), ("grows", (False,), (1,)),
                      ["grows", (), (1,)], ("Grows", (), (1,)), ("grows", (), (1,), ()), ("grows", (), 1),
                      ("grows", (), (3,)), ("grows", (-1,), (1,)), ("grows", (), ((1,),)), ("grows", "", (1,)),
                      ("grows", (0, (1,)), (1,)), ("most", 0, ())) + JUNK:
            self.assert_calls(False, waiting_holds, model=MIDDLE, w=4, thing=thing)
        for wrong in WRONG_ROWS_OF_TWO:
            self.assert_calls(False, waiting_holds, model=FAIR, w=3, thing=("most", 0, wrong))
        self.assert_calls(True, waiting_holds, model=FAIR, w=3, thing=("most", 0, ()))
        for wrong in WRONG_NUMBERS:
            self.assert_calls(False, waiting_holds, model=FAIR, w=3, thing=("most", wrong, ()))


class Errors(Case):
    """[0.2], "The interface": which errors are raised, in the order of the parameters."""

    def check_all(self, error, wrong, model, w):
        for more in ((), None, (True,)):
            for call in (register_behind, written, real_chance):
                self.assert_bad(error, wrong, call, model, w, more)
                self.assert_bad(error, wrong, call, way=more, w=w, model=model)
            self.assert_bad(error, wrong, waiting_holds, model, w, more)
            self.assert_bad(error, wrong, waiting_holds, thing=more, w=w, model=model)
            for k in (2, None, -1):
                self.assert_bad(error, wrong, way_read, model, w, more, k)
                self.assert_bad(error, wrong, way_read, k=k, bits=more, w=w, model=model)
        self.assert_bad(error, wrong, judge_waiting, model, w)
        self.assert_bad(error, wrong, judge_waiting, w=w, model=model)

    def test_wrong_models_come_first(self):
        for wrong in WRONG_MODELS:
            with self.subTest(repr(wrong)[:80]):
                for w in (3, None):
                    self.check_all(BadModel, wrong, wrong, w)

    def test_wrong_widths(self):
        for wrong in WRONG_WIDTHS:
            with self.subTest(repr(wrong)[:80]):
                for model in (ONE, ALONE, FINE):
                    self.check_all(BadNumber, wrong, model, wrong)
        for model, wrong in ((FINE, 8), (SEVENTEENTHS, 5), (FIVE, 4), ((((HALVES, (0, 0)), FINE[0])), 3)):
            self.check_all(BadNumber, wrong, model, wrong)

    def test_wrong_ways(self):
        for model, wrong in [(ONE, wrong) for wrong in WRONG_ROWS_OF_TWO] + list(NO_WAYS):
            w = widths(model, 16)[0]
            with self.subTest(repr(wrong)[:80]):
                for call in (register_behind, written, real_chance):
                    self.assert_bad(BadWay, wrong, call, model, w, wrong)
                    self.assert_bad(BadWay, wrong, call, way=wrong, w=w, model=model)

    def test_wrong_bits_and_numbers(self):
        for wrong in WRONG_BITS:
            for k in (2, None, -1):
                self.assert_bad(BadBits, wrong, way_read, ONE, 3, wrong, k)
                self.assert_bad(BadBits, wrong, way_read, k=k, bits=wrong, w=16, model=ALONE)
        for wrong in WRONG_NUMBERS:
            self.assert_bad(BadNumber, wrong, way_read, ONE, 3, (0, 1), wrong)
            self.assert_bad(BadNumber, wrong, way_read, k=wrong, bits=(), w=16, model=ALONE)

    def test_what_is_passed_stays_as_it_was(self):
        for thing in (["most", 0, []], ("grows", [], [1]), {"most": [0]}, ("most", [0], ())):
            self.assert_calls(False, waiting_holds, model=MIDDLE, w=4, thing=thing)


if __name__ == "__main__":
    unittest.main()
