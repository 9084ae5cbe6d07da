"""Part 13: a service, its deeds, its claims and its texts."""

import random
import unittest

from coins import WRONG_BITS, followed
from drawnbits.best import best_machine
from drawnbits.compiling import best_cost
from drawnbits.errors import (BadBits, BadClaim, BadNumber, BadProgram, BadText, BadWay, NothingToRedo, NothingToUndo,
                              Unkept)
from drawnbits.leftover import wanted
from drawnbits.services import Service, read_service
from draws import BOTH, COIN, DIE, MANY_OPEN, ONE, OPEN, SWAP, THREE, WRONG_PROGRAMS, nested, own_meaning
from support import EDGE, EIGHT, HALVES, JUNK, SKEW, THIRDS, WRONG_FRACTIONS, WRONG_NUMBERS, Case, table_of

TWO_COINS = ("bind", COIN, (COIN, COIN))
THIRD = ("draw", ((1, 3), (2, 3)))
# All kinds of programs, with all kinds of claims about them.
PROGRAMS = {"again": DIE, "both": BOTH, "coin": COIN, "many": MANY_OPEN, "one": ONE, "open": OPEN, "swap": SWAP,
            "twice": TWO_COINS}
CLAIMS = (("alike", "coin", "twice"), ("chance", "again", 2, (1, 3)), ("bits", "again", (8, 3)),
          ("sure", "again", (0, 1, 2)), ("sure", "one", (1,)), ("alike", "open", "open"), ("chance", "one", 0, (0, 1)),
          ("bits", "coin", (10 ** 20, 1)))
FULL_TEXT = """put again again bind draw 2 1/2 1/2 map draw 2 1/2 1/2 4 0 1 map draw 2 1/2 1/2 4 2 3 3 0 1 2
put both bind place 0 2 place 0 2 value 2 1
put coin draw 2 1/2 1/2
put many bind place 3 3 place 0 2 map place 0 2 2 1 0 bind place 1 1 map place 3 3 2 1 0 1
put one value 2 1
put open place 0 2
put swap map place 0 2 2 1 0
put twice bind draw 2 1/2 1/2 draw 2 1/2 1/2 draw 2 1/2 1/2
stock 1011001
claim alike coin twice
claim chance again 2 1/3
claim bits again 8/3
claim sure again 0 1 2
claim sure one 1
claim alike open open
claim chance one 0 0/1
claim bits coin 100000000000000000000/1"""
NAMES = ("a", "z", "abcdefgh", "coin", "zzzzzzzz")
WRONG_NAMES = JUNK + ("", "A", "aB", "abcdefghi", "a b", " a", "a ", "a1", "1", "a_", "a\n", "\n", "coin-", ("a",),
                      ["a"], 0, 1, ("coin", "a"), {"a": 1}, "a" * 9, "`", "{", "~")
WRONG_NAMES = [thing for thing in WRONG_NAMES if thing not in ("within", "lot")]
WRONG_WIDTHS = JUNK + (0, 13, (1,), "3", 10 ** 99, (), 3.0)
WRONG_WANTS = JUNK + (0, 1, 9, 65, (2,), "2", 10 ** 99, (), 2.0)


def full():
    """A service with eight programs, a stock, and eight claims."""
    shop = Service()
    for name in sorted(PROGRAMS, reverse=True):
        shop.put(name, PROGRAMS[name])
    shop.feed((1, 0, 1, 1, 0, 0, 1))
    for claim in CLAIMS:
        shop.claim(claim)
    return shop


def with_programs(**programs):
    shop = Service()
    for name, program in programs.items():
        shop.put(name, program)
    return shop


class ServiceCase(Case):
    def told(self, shop):
        return (shop.standing(), shop.undoable(), shop.redoable(), shop.text())

    def assert_refused(self, shop, error, parameters, call, /, *args, **named):
        """The call raises just this error, and leaves the service as it was."""
        before = self.told(shop)
        self.assert_raised(error, parameters, call, *args, **named)
        self.assert_same(self.told(shop), before)

    def assert_deed(self, shop, found, call, /, *args, **named):
        """The call is a deed with this result: it can be undone, and done again."""
        before, many, passed = shop.standing(), shop.undoable(), repr((args, named))
        self.assert_same(call(*args, **named), found)
        after = shop.standing()
        self.assertEqual((shop.undoable(), shop.redoable()), (many + 1, 0))
        self.assert_same(shop.undo(), None)
        self.assert_same(shop.standing(), before)
        self.assertEqual((shop.undoable(), shop.redoable()), (many, 1))
        self.assert_same(shop.redo(), None)
        self.assert_same(shop.standing(), after)
        self.assertEqual((shop.undoable(), shop.redoable()), (many + 1, 0))
        self.assertEqual(passed, repr((args, named)))


class Examples(ServiceCase):
    """The examples of drawnbits/services.py, as the document has them."""

    def test_all(self):
        shop = Service()
        self.assert_same(
            [shop.put('coin', ('draw', ((1, 2), (1, 2)))), shop.put('open', ('map', ('place', 0, 2), (1, 0), 2)),
             shop.claim(('bits', 'coin', (1, 1))), shop.feed((1, 0, 1)), shop.undoable(), shop.text()],
            [None, None, None, None, 4,
             'put coin draw 2 1/2 1/2\nput open map place 0 2 2 1 0\nstock 101\nclaim bits coin 1/1'])
        self.assert_refused(shop, Unkept, {"claim": ('bits', 'coin', (1, 1))}, shop.put, 'coin',
                            ('draw', ((1, 3), (2, 3))))
        self.assert_same(
            [shop.roll(2, 4), shop.standing()[1], shop.undo(), shop.standing()[1], shop.redoable(),
             read_service(shop.text()).is_same(shop), read_service('').standing()],
            [2, (1,), None, (1, 0, 1), 1, True, ((), (), ())])
        self.assert_raised(BadText, {"at": 1}, read_service, 'put coin draw 2 1/2 1/3')


class Standings(ServiceCase):
    """[13.1]: services and their standings."""

    def test_new_ones(self):
        shop = Service()
        self.assert_same(self.told(shop), (((), (), ()), 0, 0, ""))
        self.assert_refused(shop, NothingToUndo, {}, shop.undo)
        self.assert_refused(shop, NothingToRedo, {}, shop.redo)

    def test_full_ones(self):
        shop = full()
        self.assert_same(shop.standing(), (tuple(sorted(PROGRAMS.items())), (1, 0, 1, 1, 0, 0, 1), CLAIMS))
        self.assertEqual((shop.undoable(), shop.redoable()), (17, 0))

    def test_nothing_is_shared(self):
        one, other = full(), Service()
        self.assert_same(other.standing(), ((), (), ()))
        other.feed((1,))
        self.assert_same(one.standing(), full().standing())

    def test_what_is_the_same(self):
        one, other = full(), full()
        self.assertIs(one.is_same(one), True)
        self.assertIs(one.is_same(other), True)
        other.feed(())
        self.assertIs(one.is_same(other), True)
        self.assertIs(other.is_same(thing=one), True)
        other.feed((0,))
        self.assertIs(one.is_same(other), False)
        other.undo()
        other.release(CLAIMS[0])
        self.assertIs(one.is_same(other), False)
        other.claim(CLAIMS[0])
        # The same claims, in another order.
        self.assertIs(one.is_same(other), False)
        self.assertIs(Service().is_same(Service()), True)
        for thing in JUNK + (one.standing(), one.text(), (one,), [one], {"one": one}, Service, Service(), ()):
            self.assertIs(one.is_same(thing), False)
            self.assertIs(one.is_same(thing=thing), False)

    def test_copies_go_on_by_themselves(self):
        shop = full()
        shop.undo()
        before = self.told(shop)
        copy = shop.copied()
        self.assertIs(copy.__class__, Service)
        self.assert_same(self.told(copy), (shop.standing(), 0, 0, shop.text()))
        self.assert_refused(copy, NothingToUndo, {}, copy.undo)
        self.assert_refused(copy, NothingToRedo, {}, copy.redo)
        copy.feed((1, 1))
        copy.release(CLAIMS[1])
        self.assert_same(self.told(shop), before)
        standing = copy.standing()
        shop.undo()
        shop.undo()
        self.assert_same(copy.standing(), standing)
        self.assertEqual((copy.undoable(), copy.redoable()), (2, 0))

    def test_asking_changes_nothing(self):
        shop = full()
        shop.undo()
        before = self.told(shop)
        for _ in range(2):
            shop.is_same(Service())
            shop.copied()
            shop.text()
        self.assert_same(self.told(shop), before)


class Deeds(ServiceCase):
    """[13.3]: deeds, undone and done again."""

    def test_put(self):
        shop = Service()
        for name in NAMES:
            self.assert_deed(shop, None, shop.put, name, COIN)
            self.assert_deed(shop, None, shop.put, program=DIE, name=name)
        self.assert_same(shop.standing(), (tuple([(name, DIE) for name in sorted(NAMES)]), (), ()))
        # In the place of one: also the same one, and one of another kind.
        self.assert_deed(shop, None, shop.put, "a", DIE)
        self.assert_deed(shop, None, shop.put, "a", MANY_OPEN)
        self.assert_same(dict(shop.standing()[0])["a"], MANY_OPEN)

    def test_put_in_the_place_of_one_with_claims(self):
        shop = full()
        self.assert_deed(shop, None, shop.put, "coin", ("again", COIN, (0, 1)))
        self.assert_deed(shop, None, shop.put, "open", THREE)
        for name, program, claim in (("coin", THIRD, CLAIMS[0]), ("twice", THIRD, CLAIMS[0]), ("coin", OPEN, CLAIMS[0]),
                                     ("twice", ("draw", THIRDS), CLAIMS[0]), ("again", ("value", 3, 2), CLAIMS[1]),
                                     ("again", ("value", 2, 0), CLAIMS[1]), ("one", COIN, CLAIMS[4]),
                                     ("one", OPEN, CLAIMS[4]), ("one", ("value", 8, 2), CLAIMS[4]),
                                     ("again", ("draw", ((1, 3), (1, 3), (1, 3))), None),
                                     ("one", ("value", 3, 1), None), ("coin", ("place", 1, 2), CLAIMS[0])):
            if claim is None:
                self.assert_deed(shop, None, shop.put, name, program)
                shop.undo()
            else:
                self.assert_refused(shop, Unkept, {"claim": claim}, shop.put, name, program)
                self.assert_refused(shop, Unkept, {"claim": claim}, shop.put, program=program, name=name)

    def test_first_claim_that_is_not_kept(self):
        shop = with_programs(a=COIN, b=COIN)
        claims = [("bits", "a", (3, 1)), ("chance", "b", 0, (1, 2)), ("chance", "a", 1, (1, 2)), ("alike", "b", "a")]
        for claim in claims:
            shop.claim(claim)
        self.assert_refused(shop, Unkept, {"claim": claims[2]}, shop.put, "a", THIRD)
        self.assert_refused(shop, Unkept, {"claim": claims[0]}, shop.put, "a", OPEN)
        self.assert_refused(shop, Unkept, {"claim": claims[1]}, shop.put, "b", ("draw", THIRDS))
        self.assert_refused(shop, Unkept, {"claim": claims[3]}, shop.put, "b", ("draw", ((1, 2), (1, 4), (1, 4))))
        shop.release(claims[2])
        self.assert_refused(shop, Unkept, {"claim": claims[3]}, shop.put, "a", THIRD)
        shop.release(claims[3])
        self.assert_deed(shop, None, shop.put, "a", THIRD)

    def test_drop(self):
        shop = full()
        for name, claim in (("again", CLAIMS[1]), ("coin", CLAIMS[0]), ("twice", CLAIMS[0]), ("one", CLAIMS[4]),
                            ("open", CLAIMS[5])):
            self.assert_refused(shop, Unkept, {"claim": claim}, shop.drop, name)
            self.assert_refused(shop, Unkept, {"claim": claim}, shop.drop, name=name)
        self.assert_deed(shop, None, shop.drop, "swap")
        self.assert_deed(shop, None, shop.drop, name="both")
        self.assertEqual([name for name, _ in shop.standing()[0]], ["again", "coin", "many", "one", "open", "twice"])
        for claim in CLAIMS:
            shop.release(claim)
        for name in ("coin", "twice", "again", "open", "one", "many"):
            self.assert_deed(shop, None, shop.drop, name)
        self.assert_same(shop.standing(), ((), (1, 0, 1, 1, 0, 0, 1), ()))

    def test_feed(self):
        shop = Service()
        self.assert_deed(shop, None, shop.feed, ())
        self.assert_deed(shop, None, shop.feed, (1, 0))
        self.assert_deed(shop, None, shop.feed, bits=(0,) * 198)
        self.assert_same(shop.standing()[1], (1, 0) + (0,) * 198)
        self.assertEqual(len(shop.standing()[1]), 200)

    def test_draw(self):
        source = random.Random(3)
        for program in (COIN, DIE, ONE, TWO_COINS, THIRD, ("draw", SKEW), ("draw", EIGHT), nested(7, THIRD, "case")):
            machine = best_machine(table_of(own_meaning(program, {})))
            for many in (0, 1, 2, 3, 9, 200):
                shop = with_programs(a=program)
                stock = tuple([source.randrange(2) for _ in range(many)])
                shop.feed(stock)
                found = followed(machine, stock)
                if found is None:
                    self.assert_refused(shop, BadBits, {"thing": stock}, shop.draw, "a")
                    self.assert_refused(shop, BadBits, {"thing": stock}, shop.draw, name="a")
                else:
                    self.assert_deed(shop, found[0], shop.draw, "a")
                    self.assert_same(shop.standing()[1], stock[found[1]:])

    def test_draws_in_turn(self):
        shop = with_programs(a=THIRD, b=DIE)
        stock = tuple([random.Random(8).randrange(2) for _ in range(120)])
        shop.feed(stock)
        for k in range(20):
            name, program = (("a", THIRD), ("b", DIE))[k % 2]
            outcome, taken = followed(best_machine(table_of(own_meaning(program, {}))), stock)
            self.assert_deed(shop, outcome, shop.draw, name=name)
            stock = stock[taken:]
            self.assert_same(shop.standing(), ((("a", THIRD), ("b", DIE)), stock, ()))

    def test_draw_of_an_open_program(self):
        shop = full()
        for name in ("both", "many", "open", "swap"):
            self.assert_refused(shop, BadProgram, {"thing": PROGRAMS[name]}, shop.draw, name)
        # Ahead of the error for too few bits.
        other = with_programs(a=OPEN)
        self.assert_refused(other, BadProgram, {"thing": OPEN}, other.draw, "a")

    def test_roll(self):
        source = random.Random(4)
        for w, n in ((1, 2), (2, 3), (2, 4), (3, 8), (3, 5), (6, 37), (12, 64), (12, 2), (8, 63)):
            for many in (0, 1, 2, 3, 12, 200):
                shop = Service()
                stock = tuple([source.randrange(2) for _ in range(many)])
                shop.feed(stock)
                found = wanted(w, (1, 0), n, stock)
                if found is None:
                    self.assert_refused(shop, BadBits, {"thing": stock}, shop.roll, w, n)
                    self.assert_refused(shop, BadBits, {"thing": stock}, shop.roll, n=n, w=w)
                else:
                    self.assert_deed(shop, found[0], shop.roll, w, n)
                    self.assert_same(shop.standing()[1], stock[found[2]:])
        shop = with_programs(a=COIN)
        shop.feed((1, 0, 1, 1, 0, 1))
        # What is left over is forgotten: each one begins with (1, 0).
        self.assert_deed(shop, 0, shop.roll, n=2, w=2)
        self.assert_deed(shop, 1, shop.roll, 2, 2)
        self.assert_deed(shop, 1, shop.roll, 2, 2)
        self.assert_same(shop.standing(), ((("a", COIN),), (), ()))

    def test_claim_and_release(self):
        shop = full()
        for claim in CLAIMS:
            self.assert_refused(shop, BadClaim, {"thing": claim}, shop.claim, claim)
            self.assert_refused(shop, BadClaim, {"thing": claim}, shop.claim, words=claim)
        self.assert_deed(shop, None, shop.release, CLAIMS[3])
        self.assert_deed(shop, None, shop.release, words=CLAIMS[0])
        self.assert_same(shop.standing()[2], CLAIMS[1:3] + CLAIMS[4:])
        self.assert_refused(shop, BadClaim, {"thing": CLAIMS[0]}, shop.release, CLAIMS[0])
        self.assert_deed(shop, None, shop.claim, CLAIMS[0])
        self.assert_deed(shop, None, shop.claim, words=CLAIMS[3])
        self.assert_same(shop.standing()[2], CLAIMS[1:3] + CLAIMS[4:] + (CLAIMS[0], CLAIMS[3]))

    def test_a_deed_behind_an_undo(self):
        shop = full()
        for _ in range(5):
            shop.undo()
        self.assertEqual((shop.undoable(), shop.redoable()), (12, 5))
        standing = shop.standing()
        # What raises an error is no deed.
        self.assert_refused(shop, BadBits, {"thing": 0}, shop.feed, 0)
        shop.redo()
        shop.undo()
        self.assert_same(shop.standing(), standing)
        shop.feed((1,))
        self.assertEqual((shop.undoable(), shop.redoable()), (13, 0))
        self.assert_refused(shop, NothingToRedo, {}, shop.redo)
        shop.undo()
        self.assert_same(shop.standing(), standing)

    def test_forty_deeds(self):
        shop = Service()
        standings = [shop.standing()]
        for k in range(40):
            shop.feed((k % 2,) * (k % 3))
            standings.append(shop.standing())
        for k in range(39, -1, -1):
            shop.undo()
            self.assert_same(shop.standing(), standings[k])
            self.assertEqual((shop.undoable(), shop.redoable()), (k, 40 - k))
        self.assert_refused(shop, NothingToUndo, {}, shop.undo)
        for k in range(1, 41):
            shop.redo()
            self.assert_same(shop.standing(), standings[k])
        self.assert_refused(shop, NothingToRedo, {}, shop.redo)

    def test_deeds_at_random(self):
        # Each deed with an own list of standings, at a place in it; those behind the place are gone with a deed.
        for seed in range(12):
            source = random.Random(seed)
            shop, standings, at = Service(), [((), (), ())], 0
            for _ in range(150):
                name, other = source.choice(("a", "b", "c")), source.choice(("a", "b", "c"))
                call = source.choice((
                    lambda: shop.put(name, source.choice((COIN, TWO_COINS, THIRD, OPEN, SWAP, DIE))),
                    lambda: shop.drop(name), lambda: shop.feed((1, 0, 1, 1)[source.randrange(5):]),
                    lambda: shop.draw(name), lambda: shop.roll(3, source.randrange(2, 9)),
                    lambda: shop.claim(source.choice((("alike", name, other), ("bits", name, (1, 1)), (
                        "chance", name, 0, (1, 2)), ("sure", name, (0, 1))))),
                    lambda: shop.release(shop.standing()[2][-1] if shop.standing()[2] else None),
                    shop.undo, shop.undo, shop.redo))
                try:
                    call()
                except Exception as error:
                    if isinstance(error, (NothingToUndo, NothingToRedo)):
                        self.assertIn(at, (0, len(standings) - 1))
                    self.assert_same(shop.standing(), standings[at])
                else:
                    if call == shop.undo:
                        at -= 1
                    elif call == shop.redo:
                        at += 1
                    else:
                        standings[at + 1:] = [shop.standing()]
                        at += 1
                self.assert_same(shop.standing(), standings[at])
                self.assertEqual((shop.undoable(), shop.redoable()), (at, len(standings) - 1 - at))
                again = read_service(shop.text())
                self.assert_same(again.standing(), standings[at])
                self.assertIs(again.is_same(shop), True)
                self.assertEqual((again.undoable(), again.redoable()), (0, 0))


class Claims(ServiceCase):
    """[13.2]: which claims there are, and which are so."""

    def shop(self):
        return with_programs(both=BOTH, coin=COIN, die=DIE, one=ONE, open=OPEN, skew=("draw", SKEW), three=THREE,
                             twice=TWO_COINS, wide=("place", 0, 3))

    def check_claim(self, claim, is_kept):
        shop = self.shop()
        if is_kept:
            self.assert_deed(shop, None, shop.claim, claim)
            self.assert_same(shop.standing()[2], (claim,))
        else:
            self.assert_refused(shop, Unkept, {"claim": claim}, shop.claim, claim)
            self.assert_refused(shop, Unkept, {"claim": claim}, shop.claim, words=claim)

    def check_none(self, shop, claim):
        for call in (shop.claim, shop.release):
            self.assert_refused(shop, BadClaim, {"thing": claim}, call, claim)
            self.assert_refused(shop, BadClaim, {"thing": claim}, call, words=claim)

    def test_alike(self):
        for one, other, is_kept in (("coin", "twice", True), ("twice", "coin", True), ("coin", "one", False),
                                    ("coin", "coin", True), ("open", "open", True), ("open", "both", False),
                                    ("open", "coin", False), ("coin", "open", False), ("three", "three", True)):
            self.check_claim(("alike", one, other), is_kept)
        shop = self.shop()
        for one, other in (("coin", "die"), ("three", "coin"), ("open", "wide"), ("both", "wide")):
            self.check_none(shop, ("alike", one, other))
            self.check_none(shop, ("alike", other, one))

    def test_alike_with_places_of_other_sizes(self):
        shop = with_programs(a=("map", ("place", 0, 3), (0, 1, 1), 2), b=OPEN, c=("map", ("place", 1, 3), (0, 1, 1), 2))
        self.check_none(shop, ("alike", "a", "b"))
        self.assert_refused(shop, Unkept, {"claim": ("alike", "c", "b")}, shop.claim, ("alike", "c", "b"))
        self.assert_deed(shop, None, shop.put, "b", ("bind", ("place", 0, 3), (("value", 2, 0), ONE, ONE)))
        self.assert_deed(shop, None, shop.claim, ("alike", "a", "b"))

    def test_chances(self):
        for name, i, number, is_kept in (("coin", 0, (1, 2), True), ("coin", 1, (1, 3), False),
                                         ("one", 1, (1, 1), True), ("one", 0, (0, 1), True),
                                         ("one", 0, (1, 1), False), ("die", 3, (0, 1), True),
                                         ("die", 2, (1, 3), True), ("skew", 0, (1, 6), True),
                                         ("skew", 3, (1, 6), False)):
            self.check_claim(("chance", name, i, number), is_kept)
        shop = self.shop()
        for wrong in WRONG_FRACTIONS + ((-1, 2), (3, 2), (2, 1), (10 ** 30, 1)):
            self.check_none(shop, ("chance", "coin", 0, wrong))
        for wrong in JUNK + (2, -1, "0", (0,), 10 ** 99, 0.0):
            self.check_none(shop, ("chance", "coin", wrong, (1, 2)))
        self.check_none(shop, ("chance", "open", 0, (1, 2)))
        self.check_none(shop, ("chance", "one", 2, (0, 1)))

    def test_bits(self):
        for name, number, is_kept in (("coin", (1, 1), True), ("coin", (9, 10), False), ("coin", (10 ** 30, 1), True),
                                      ("twice", (1, 1), True), ("one", (0, 1), True), ("die", (8, 3), True),
                                      ("die", (7, 3), False), ("die", (0, 1), False), ("die", (267, 100), True)):
            self.check_claim(("bits", name, number), is_kept)
        self.assertEqual(best_cost(DIE), (8, 3))
        shop = self.shop()
        for wrong in WRONG_FRACTIONS + ((-1, 2), (-1, 1)):
            self.check_none(shop, ("bits", "coin", wrong))
        self.check_none(shop, ("bits", "open", (8, 1)))

    def test_sure(self):
        for name, lot, is_kept in (("coin", (0, 1), True), ("coin", (0,), False), ("coin", (), False),
                                   ("one", (1,), True), ("one", (0, 1), True), ("one", (0,), False),
                                   ("die", (0, 1, 2), True), ("die", (0, 1, 2, 3), True), ("die", (0, 1, 3), False),
                                   ("skew", (0, 2, 3), True)):
            self.check_claim(("sure", name, lot), is_kept)
        shop = self.shop()
        for wrong in [thing for thing in JUNK if thing != ()] + [
                0, (2,), (0, 2), (1, 0), (0, 0), (0, 1, 1), [0], (True,), (0, True), ("0",), ((0,),), {0: 1}, "01"]:
            self.check_none(shop, ("sure", "coin", wrong))
        self.check_none(shop, ("sure", "open", (0, 1)))

    def test_things_that_are_no_claims(self):
        shop = full()
        things = JUNK + (
            (), "alike", ("alike",), ("alike", "coin"), ("alike", "coin", "twice", "coin"), ["alike", "coin", "twice"],
            ("Alike", "coin", "twice"), (("alike", "coin", "twice"),), ("alike", ("coin", "twice")), ("alike", 0, 1),
            ("alike", "coin", "nothing"), ("alike", "nothing", "coin"), ("alike", "coin", None),
            ("alike", None, "coin"), ("alike", "Coin", "twice"), ("alike", ["coin"], "twice"),
            ("alike", "coin", ("twice",)), ("alike", "", "coin"),
            ("chance",), ("chance", "coin"), ("chance", "coin", 0), ("chance", "coin", (1, 2)),
            ("chance", "coin", 0, (1, 2), ()), ("chance", "nothing", 0, (1, 2)), ["chance", "coin", 0, (1, 2)],
            ("chance", "coin", 0, 1, 2), ("chance", 0, "coin", (1, 2)), ("chance", COIN, 0, (1, 2)), ("bits",),
            ("bits", "coin"), ("bits", "coin", 1), ("bits", "coin", (1, 1), ()), ("bits", (1, 1), "coin"),
            ("bits", "nothing", (1, 1)), ("sure",), ("sure", "coin"), ("sure", "coin", 0, 1), ("sure", (0, 1), "coin"),
            ("sure", "nothing", (0, 1)), ("costs", "coin", (1, 1)), ("coin", "bits", (1, 1)), (0, "coin", (1, 1)),
            (None, "coin", (1, 1)), {"bits": "coin"}, "bits coin 1/1", ("sure", "coin", (0, 1), (0, 1)),
            ("costs", "coin", (0, 1)), ("Sure", "coin", (0, 1)), (0, "coin", (0, 1)), (None, "one", (1,)),
            ("chance", "again", True, (1, 3)), ("chance", "again", 2, (2, 6)), ("chance", "one", False, (0, 1)),
            ("sure", "one", (True,)), ("sure", "again", [0, 1, 2]), ("sure", "again", (False, 1, 2)),
            ("bits", "again", (True, 1)), ("chance", "one", 0, (False, 1)), ("alike", "coin", True), (shop, shop, shop),
            ("alike", shop, "coin"), ("bits", "coin", shop), ("sure", "coin", Service()),
            ("chance", "coin", shop, (1, 2)))
        for thing in things:
            with self.subTest(repr(thing)[:80]):
                self.check_none(shop, thing)
        # What is a claim, and kept, but is not the service's: it can be put in, and not taken out.
        for claim in (("sure", "again", (0, 1, 2, 3)), ("bits", "again", (3, 1)), ("alike", "twice", "coin")):
            self.assert_refused(shop, BadClaim, {"thing": claim}, shop.release, claim)
            self.assert_deed(shop, None, shop.claim, claim)
            self.assert_deed(shop, None, shop.release, claim)


class Texts(ServiceCase):
    """[13.4]: texts, written and read."""

    def refused(self, text, at):
        with self.subTest(repr(text)[-80:]):
            self.assert_raised(BadText, {"at": at}, read_service, text)
            self.assert_raised(BadText, {"at": at}, read_service, text=text)

    def test_full_text(self):
        shop = full()
        self.assert_same(shop.text(), FULL_TEXT)
        for found in (read_service(FULL_TEXT), read_service(text=FULL_TEXT)):
            self.assertIs(found.__class__, Service)
            self.assert_same(found.standing(), shop.standing())
            self.assertEqual((found.undoable(), found.redoable()), (0, 0))
            self.assert_same(found.text(), FULL_TEXT)
            self.assert_refused(found, NothingToUndo, {}, found.undo)

    def test_all_beginnings(self):
        lines = FULL_TEXT.split("\n")
        for k in range(len(lines) + 1):
            text = "\n".join(lines[:k])
            found = read_service(text)
            self.assert_same(found.text(), text)
            programs, stock, claims = full().standing()
            wanted_standing = (programs[:k], stock if k > 8 else (), claims[:max(0, k - 9)])
            self.assert_same(found.standing(), wanted_standing)

    def test_other_texts(self):
        for text in ("", "stock 0", "stock " + "10" * 100, "put a value 1 0", "put abcdefgh draw 1 1/1",
                     "put a draw 8" + " 1/8" * 8 + "\nput b place 3 8\nstock 1\nclaim sure a 0 1 2 3 4 5 6 7",
                     "put a draw 2 0/1 1/1\nclaim chance a 0 0/1\nclaim chance a 1 1/1\nclaim bits a 0/1",
                     "put a map value 1 0 8 7\nput b again map value 1 0 8 7 2 6 7\nclaim alike a b"):
            found = read_service(text)
            self.assert_same(found.text(), text)
            self.assert_same(read_service(found.text()).standing(), found.standing())

    def test_each_line_otherwise(self):
        lines = FULL_TEXT.split("\n")
        wrong_ones = ("", " ", "put", "put ", "stock", "stock ", "claim", "claim ", "x", "put a", "put a value", "1",
                      "#", "put zz value 1 0 ", "Put zz value 1 0", "claim bits", "claim chance coin 0 1/3", "stock 2",
                      "claim sure coin 0", "put zz draw 2 1/2", "put zz bind", "claim alike coin one", "stock 1 0",
                      "x alike twice coin", "claims sure coin 0 1", "alike twice coin", "claim costs coin 0 1",
                      "Claim sure coin 0 1", "put sure coin 0 1", "stock sure coin 0 1")
        for k in range(len(lines)):
            for wrong in wrong_ones:
                self.refused("\n".join(lines[:k] + [wrong] + lines[k + 1:]), k + 1)
            for wrong in (lines[k] + " ", " " + lines[k], lines[k].replace(" ", "  ", 1), lines[k] + " x",
                          lines[k].upper(), lines[k][:-1] + "x", lines[k] + "\n", lines[k].replace(" ", "\t", 1)):
                at = k + 2 if wrong.endswith("\n") else k + 1
                self.refused("\n".join(lines[:k] + [wrong] + lines[k + 1:]), at)

    def test_each_word_left_out_or_twice(self):
        lines = FULL_TEXT.split("\n")
        for k in (0, 1, 2, 3, 4, 5, 6, 7, 9, 10, 11):
            words = lines[k].split(" ")
            for at in range(len(words)):
                for wrong in (words[:at] + words[at + 1:], words[:at] + [words[at]] + words[at:]):
                    text = "\n".join(lines[:k] + [" ".join(wrong)] + lines[k + 1:])
                    try:
                        found = read_service(text)
                    except BadText as error:
                        # A number may be left out, so that a lesser number is right, and a later line is wrong.
                        self.assertGreaterEqual(error.at, k + 1)
                    else:
                        self.assert_same(found.text(), text)

    def test_lines_in_another_order(self):
        one, two, stock = "put a value 1 0", "put b value 1 0", "stock 1"
        claim, other = "claim sure a 0", "claim sure b 0"
        for lines, at in (([two, one], 2), ([one, one], 2), ([stock, one], 2), ([one, stock, two], 3),
                          ([stock, stock], 2), ([one, claim, two], 3), ([one, claim, stock], 3), ([claim, one], 1),
                          ([one, other, two], 2), ([one, two, claim, claim], 4), ([one, two, claim, stock, other], 4),
                          ([stock, claim], 2), ([one, "", two], 2), ([one, two, ""], 3), (["", one], 1),
                          ([one, two, other, claim, one], 5)):
            self.refused("\n".join(lines), at)
        for lines in ([one, two, stock, claim, other], [one, two, other, claim], [one, stock, claim]):
            self.assert_same(read_service("\n".join(lines)).text(), "\n".join(lines))

    def test_line_feeds_and_blanks(self):
        for text, at in (("\n", 1), ("\n\n", 1), (" ", 1), (" \n", 1), ("\nput a value 1 0", 1),
                         ("put a value 1 0\n", 2), ("put a value 1 0\n\n", 2), ("put a value 1 0\n ", 2),
                         ("stock 1\n", 2), (" stock 1", 1), ("stock  1", 1), ("stock 1 ", 1),
                         ("put a value 1 0 \nstock 1", 1), ("put  a value 1 0", 1)):
            self.refused(text, at)

    def test_numbers(self):
        for wrong in ("01", "+1", "-1", "1.0", "1_0", "", "00", "-0", " 1", "one", "1/1", "1e0", "0x1", "(1)", "True"):
            self.refused(f"put a value 2 {wrong}", 1)
            self.refused(f"put a value {wrong} 0", 1)
            self.refused(f"put a draw {wrong} 1/1", 1)
            self.refused(f"put a place {wrong} 2", 1)
            self.refused(f"put a place 0 {wrong}", 1)
            self.refused(f"put a map draw 2 1/2 1/2 2 0 {wrong}", 1)
            self.refused(f"put a map draw 2 1/2 1/2 {wrong} 0 0", 1)
            self.refused(f"put a again draw 2 1/2 1/2 1 {wrong}", 1)
            self.refused(f"put a again draw 2 1/2 1/2 {wrong} 0", 1)
            self.refused(f"put a value 2 1\nclaim sure a {wrong}", 2)
            self.refused(f"put a value 2 1\nclaim chance a {wrong} 1/1", 2)
        for wrong in ("2/4", "1/02", "01/2", "+1/2", "1/-2", "-1/-2", "1", "1/2/2", "1/", "/2", "/", "0.5", "1//2",
                      "1 / 2", "0/2", "2/2", "1/0", "0/0", "1:2", "1/2.", "one/2"):
            self.refused(f"put a draw 2 {wrong} 1/2", 1)
            self.refused(f"put a draw 2 1/2 1/2\nclaim chance a 0 {wrong}", 2)
            self.refused(f"put a draw 2 1/2 1/2\nclaim bits a {wrong}", 2)
        self.refused("put a draw 2 1/2 1/2\nclaim chance a 0 3/2", 2)
        self.refused("put a value 1 0\nclaim sure a", 2)
        self.refused("put a draw 2 1/2 1/2\nclaim sure a 1 0", 2)
        self.refused("put a draw 2 1/2 1/2\nclaim sure a 0 0 1", 2)

    def test_programs(self):
        for wrong in ("", "value", "value 2", "value 2 2", "value 9 0", "value 0 0", "value 2 1 0", "Value 2 1", "draw",
                      "draw 0", "draw 1", "draw 2 1/2 1/3", "draw 3 1/2 1/2", "draw 2 1/2 1/2 0/1", "place 4 2",
                      "place 0 9", "place 0", "bind", "bind value 2 0 value 2 0", "bind value 1 0 value 2 0 value 2 0",
                      "bind value 2 0 value 2 0 value 3 0", "bind place 0 2 place 0 2 place 0 3", "again",
                      "again place 0 2 1 0", "again value 2 0 1 1", "again value 2 0 0", "again value 2 0 2 1 0",
                      "again value 2 0 3 0 1", "again value 2 0 1", "map", "map value 2 0 2 0", "map value 2 0 2 0 2",
                      "map value 2 0 2 0 1 1", "map value 2 0 9 0 0", "draw 99999999999999999999 1/1",
                      "again value 2 0 99999999999999999999 0",
                      "maps value 2 0 2 0 1", "value value 2 1", "bind bind bind bind bind bind bind bind value 1 0",
                      "bind " * 350 + "value 1 0", "map " * 8 + "value 1 0" + " 1 0" * 8):
            self.refused("put a " + wrong, 1)
        self.assert_same(read_service("put a " + "map " * 7 + "value 1 0" + " 1 0" * 7).undoable(), 0)
        case = " bind draw 4 1/4 1/4 1/4 1/4" + " value 1 0" * 4
        self.refused("put a bind draw 8" + " 1/8" * 8 + case * 8, 1)

    def test_names(self):
        for wrong in ("A", "aB", "abcdefghi", "a1", "", "1", "-", "a-b", "put"):
            if wrong != "put":
                self.refused(f"put {wrong} value 1 0", 1)
            self.refused(f"put a value 1 0\nclaim sure {wrong} 0", 2)
            self.refused(f"put a value 1 0\nclaim alike a {wrong}", 2)
        for name in ("put", "stock", "claim", "value"):
            self.assert_same(read_service(f"put {name} value 1 0").standing(), (((name, ("value", 1, 0)),), (), ()))

    def test_claims_that_are_not_so(self):
        begin = "put a draw 2 1/2 1/2\nput b value 2 1\nput c place 0 2\n"
        for wrong in ("chance a 0 1/3", "bits a 1/2", "sure a 0", "alike a b", "alike a c", "chance c 0 1/2",
                      "bits c 9/1", "sure c 0 1", "sure d 0", "chance a 2 0/1", "alike a", "alike a b c", "alikes a a",
                      "costs a 1/1", "chance a 1/2", "chance a 0 1/2 0", "bits a 1/1 1/1", "sure b 0 1 2",
                      "bits a 1 1", "sure a 0 1 "):
            self.refused(begin + "claim " + wrong, 4)
            self.refused(begin + "claim bits a 1/1\nclaim " + wrong, 5)
        self.refused(begin + "claim bits a 1/1\nclaim bits a 1/1", 5)
        for right in ("chance a 0 1/2", "bits a 1/1", "sure a 0 1", "alike a a", "alike c c", "bits b 0/1", "sure b 1"):
            self.assert_same(read_service(begin + "claim " + right).text(), begin + "claim " + right)

    def test_no_strings(self):
        for thing in JUNK + (Service(), 0, 1, ["stock 1"], ("stock 1",), {"stock": 1}, (), full(), b"stock 1"):
            if not isinstance(thing, str):
                self.assert_raised(BadText, {"at": 0}, read_service, thing)
                self.assert_raised(BadText, {"at": 0}, read_service, text=thing)
            elif thing != "":
                self.assert_raised(BadText, {"at": 1}, read_service, thing)


class Errors(ServiceCase):
    """[0.2], "The interface": which errors are raised, in the order of the parameters; nothing is changed by them."""

    def test_wrong_names(self):
        shop = full()
        shop.undo()
        for wrong in WRONG_NAMES:
            with self.subTest(repr(wrong)[:80]):
                for program in (COIN, OPEN, None, []):
                    self.assert_refused(shop, BadWay, {"thing": wrong}, shop.put, wrong, program)
                    self.assert_refused(shop, BadWay, {"thing": wrong}, shop.put, program=program, name=wrong)
        for wrong in WRONG_NAMES + ["nothing", "a", "lot", "within"]:
            for call in (shop.drop, shop.draw):
                self.assert_refused(shop, BadWay, {"thing": wrong}, call, wrong)
                self.assert_refused(shop, BadWay, {"thing": wrong}, call, name=wrong)

    def test_wrong_programs(self):
        shop = full()
        shop.undo()
        for wrong in WRONG_PROGRAMS + [Service(), shop, ("draw", shop), ("map", shop, (0,), 1)]:
            with self.subTest(repr(wrong)[:80]):
                # Ahead of the error for claims about the program in whose place it would come.
                for name in ("coin", "new"):
                    self.assert_refused(shop, BadProgram, {"thing": wrong}, shop.put, name, wrong)
                    self.assert_refused(shop, BadProgram, {"thing": wrong}, shop.put, program=wrong, name=name)

    def test_wrong_bits(self):
        shop = full()
        shop.undo()
        for wrong in WRONG_BITS + [Service()]:
            self.assert_refused(shop, BadBits, {"thing": wrong}, shop.feed, wrong)
            self.assert_refused(shop, BadBits, {"thing": wrong}, shop.feed, bits=wrong)

    def test_wrong_widths_and_wants(self):
        for shop in (full(), Service()):
            for wrong in WRONG_WIDTHS + (Service(),):
                for n in (2, None, 99):
                    self.assert_refused(shop, BadNumber, {"thing": wrong}, shop.roll, wrong, n)
                    self.assert_refused(shop, BadNumber, {"thing": wrong}, shop.roll, n=n, w=wrong)
            for wrong in WRONG_WANTS + (Service(),):
                self.assert_refused(shop, BadNumber, {"thing": wrong}, shop.roll, 3, wrong)
                self.assert_refused(shop, BadNumber, {"thing": wrong}, shop.roll, n=wrong, w=3)
        for wrong in WRONG_NUMBERS:
            self.assert_refused(shop, BadNumber, {"thing": wrong}, shop.roll, wrong, wrong)

    def test_too_few_bits(self):
        shop = with_programs(a=("draw", EDGE), b=COIN, c=("draw", HALVES))
        self.assert_deed(shop, 1, shop.draw, "a")
        for call, more in ((shop.draw, ("b",)), (shop.draw, ("c",)), (shop.roll, (1, 2)), (shop.roll, (12, 64))):
            self.assert_refused(shop, BadBits, {"thing": ()}, call, *more)


if __name__ == "__main__":
    unittest.main()
