"""The interface: names, files and parameters, and the conventions of [0.2] that hold for all functions."""

import ast
import importlib
import inspect
import pathlib
import unittest

from coins import COIN, LATE
from drawnbits import errors
from drawnbits.services import Service
from support import HALVES, JUNK, SHOP, THIRDS, Case
from ways import ONE

PACKAGE = pathlib.Path(__file__).resolve().parent.parent / "drawnbits"
PROGRAM = ("map", ("place", 2, 3), (1, 0, 1), 2)
OPEN = ("place", 0, 2)
WORDS = ((0,), (1, 0), (1, 1))
CLOSED = ("again", ("bind", ("draw", HALVES), (("draw", THIRDS), ("value", 3, 1))), (0, 1))
# Each function of the interface with its parameters in their order, and valid arguments for them.
FUNCTIONS = {
    "tables": {
        "is_fraction": {"thing": (1, 2)},
        "is_table": {"thing": THIRDS},
        "lot_chance": {"table": THIRDS, "lot": (0, 2)},
        "renamed": {"table": THIRDS, "names": (3, 0, 3)},
        "given_lot": {"table": THIRDS, "lot": (1, 2)},
        "mixed": {"table": HALVES, "tables": (THIRDS, THIRDS)},
        "beside": {"table": HALVES, "other": THIRDS},
        "distance": {"table": HALVES, "other": ((1, 5), (4, 5))},
        "judge_near": {"table": HALVES, "other": ((1, 5), (4, 5)), "fraction": (1, 4)},
        "near_holds": {"table": HALVES, "other": ((1, 5), (4, 5)), "fraction": (1, 4), "thing": ("lot", (1,))},
        "row_chance": {"table": THIRDS, "row": (2, 0)},
        "counts_chance": {"table": THIRDS, "counts": (2, 0, 1)}},
    "figures": {
        "figures": {"fraction": (7, 12)},
        "are_figures": {"thing": (1, (0, 1), (1, 0))},
        "fraction_of": {"told": (1, (0,), (0, 1))},
        "digit": {"fraction": (7, 12), "k": 3},
        "rest_at": {"fraction": (7, 12), "k": 3},
        "weight": {"fraction": (7, 12)},
        "is_entropy_at_least": {"table": THIRDS, "fraction": (3, 2)}},
    "machines": {
        "is_machine": {"thing": LATE},
        "are_bits": {"thing": (0, 1)},
        "run": {"machine": LATE, "bits": (1, 1, 0)},
        "reached": {"machine": LATE},
        "many_rows": {"machine": LATE, "i": 1, "k": 3},
        "chances_within": {"machine": LATE, "t": 3},
        "tail": {"machine": LATE, "t": 3},
        "judge_ends": {"machine": LATE},
        "ends_hold": {"machine": LATE, "thing": ("closed", (1,), (2,))},
        "does_end": {"machine": LATE},
        "chances": {"machine": LATE},
        "drawn_table": {"machine": LATE},
        "mean": {"machine": LATE},
        "judge_table": {"machine": LATE, "table": HALVES},
        "table_holds": {"machine": LATE, "table": HALVES, "thing": ("over", 1, 3)}},
    "best": {
        "judge_best": {"machine": LATE},
        "best_holds": {"machine": LATE, "thing": ("late", (1, 0))},
        "waste": {"machine": LATE},
        "first_waste": {"machine": LATE},
        "floor_at": {"table": THIRDS, "t": 3},
        "least_mean": {"table": THIRDS},
        "best_machine": {"table": THIRDS}},
    "alike": {
        "folded": {"machine": LATE},
        "judge_runs": {"one": LATE, "other": COIN},
        "runs_hold": {"one": LATE, "other": COIN, "thing": ("bits", (1,))},
        "judge_lengths": {"one": LATE, "other": COIN},
        "lengths_hold": {"one": LATE, "other": COIN, "thing": ("length", 1, 1)},
        "are_alike": {"one": LATE, "other": COIN}},
    "programs": {
        "is_program": {"thing": PROGRAM},
        "outcomes_of": {"program": PROGRAM},
        "places_of": {"program": PROGRAM},
        "is_closed": {"program": PROGRAM},
        "meaning": {"program": ("draw", THIRDS)},
        "filled": {"program": PROGRAM, "fillings": ((2, THIRDS),)},
        "worked_out": {"program": PROGRAM}},
    "forms": {
        "form_of": {"program": PROGRAM},
        "judge_programs": {"program": OPEN, "other": ("map", OPEN, (1, 0), 2)},
        "programs_hold": {"program": OPEN, "other": ("map", OPEN, (1, 0), 2),
                          "thing": ("fillings", ((0, ((1, 3), (2, 3))),))}},
    "compiling": {
        "plain_cost": {"program": CLOSED},
        "best_cost": {"program": CLOSED},
        "plain_machine": {"program": CLOSED},
        "is_plain_machine": {"program": CLOSED, "thing": LATE},
        "length_chance": {"program": CLOSED, "outcome": 1, "t": 3},
        "made_tail": {"program": CLOSED, "t": 3},
        "judge_cost": {"program": CLOSED},
        "cost_holds": {"program": CLOSED, "thing": ("more", 1)}},
    "leftover": {
        "wanted": {"w": 3, "rest": (3, 1), "n": 5, "bits": (1, 0, 1, 1, 0)},
        "row_wanted": {"w": 3, "wants": (5, 2, 3), "bits": (1, 0, 1, 1, 0, 0, 1, 1, 1)},
        "sizes": {"w": 3, "wants": (5, 2, 3)},
        "mean_bits": {"w": 3, "wants": (5, 2, 3)},
        "long_run": {"w": 3, "n": 5}},
    "few": {
        "can_be_drawn": {"table": THIRDS, "t": 3},
        "nearest": {"table": THIRDS, "t": 3},
        "judge_nearest": {"table": ((1, 3), (2, 3)), "t": 2, "other": HALVES},
        "nearest_holds": {"table": ((1, 3), (2, 3)), "t": 2, "other": HALVES, "thing": ("nearer", ((1, 4), (3, 4)))},
        "least_bits": {"table": THIRDS, "fraction": (1, 100)}},
    "coder": {
        "is_model": {"thing": ONE},
        "is_way": {"model": ONE, "thing": (1, 0)},
        "stretch": {"model": ONE, "way": (1, 0)},
        "bits_stretch": {"bits": (0, 1, 1)},
        "code": {"model": ONE, "way": (1, 0)},
        "way_drawn": {"model": ONE, "bits": (0, 1, 1, 0, 1), "k": 2},
        "deciding": {"model": ONE, "way": (1,), "k": 3},
        "mean_bits": {"model": ONE, "k": 2}},
    "registers": {
        "register_behind": {"model": ONE, "w": 3, "way": (1, 0, 1)},
        "written": {"model": ONE, "w": 3, "way": (1, 0, 1)},
        "real_chance": {"model": ONE, "w": 3, "way": (1, 0, 1)},
        "way_read": {"model": ONE, "w": 3, "bits": (0, 1, 1), "k": 3},
        "judge_waiting": {"model": ONE, "w": 3},
        "waiting_holds": {"model": ONE, "w": 3, "thing": ("most", 0, (1,))}},
    "words": {
        "are_words": {"thing": WORDS},
        "are_full": {"words": WORDS},
        "first_words": {"lengths": (2, 1, 3)},
        "spelt": {"words": WORDS, "row": (2, 0, 1)},
        "read": {"words": WORDS, "bits": (1, 1, 0, 1)},
        "mean_length": {"words": WORDS, "table": THIRDS},
        "judge_words": {"words": WORDS, "table": ((1, 4), (1, 4), (1, 2))},
        "words_hold": {"words": WORDS, "table": THIRDS, "thing": ("least",)},
        "least_words": {"table": THIRDS},
        "machine_of": {"words": WORDS},
        "words_of": {"machine": COIN}},
    "services": {
        "read_service": {"text": "put coin draw 2 1/2 1/2\nstock 101\nclaim bits coin 1/1"}}}
# Each method of a service with its parameters in their order, and valid arguments for the service that is made below.
METHODS = {
    "standing": {}, "text": {}, "undoable": {}, "redoable": {}, "is_same": {"thing": ()}, "copied": {},
    "put": {"name": "new", "program": PROGRAM}, "drop": {"name": "coin"}, "feed": {"bits": (1, 1)},
    "draw": {"name": "coin"}, "roll": {"w": 1, "n": 2}, "claim": {"words": ("sure", "coin", (0, 1))},
    "release": {"words": ("bits", "coin", (1, 1))}, "undo": {}, "redo": {}}
# Those of them that return what a service is like, and those that are told to return something else than None.
ASKED = ("standing", "text", "undoable", "redoable", "is_same", "copied")
RETURNING = ASKED + ("draw", "roll")
WHETHER = ("is_", "are_", "does_", "can_", "_holds", "_hold")


def listed():
    """All functions of the interface: file, name, function and valid arguments."""
    for file, functions in FUNCTIONS.items():
        module = importlib.import_module("drawnbits." + file)
        for name, arguments in functions.items():
            yield file, name, getattr(module, name), arguments


def shop():
    """A service of which each method can be called with the arguments above."""
    found = Service()
    found.put("coin", ("draw", HALVES))
    found.put("open", PROGRAM)
    found.feed((1, 0, 1))
    found.drop("open")
    found.put("open", OPEN)
    found.undo()
    return found


def is_plain(thing):
    """Whether a result consists of integers, strings, bools, None and tuples."""
    if thing.__class__ is tuple:
        return all([is_plain(item) for item in thing])
    return thing is None or thing.__class__ in (int, str, bool)


class InterfaceTest(Case):
    def test_defined_where_they_are_listed(self):
        for file, name, function, _ in listed():
            with self.subTest(name):
                tree = ast.parse((PACKAGE / (file + ".py")).read_text())
                self.assertIn(name, [part.name for part in tree.body if isinstance(part, ast.FunctionDef)])
                self.assertEqual(function.__module__, "drawnbits." + file)

    def test_parameters(self):
        for _, name, function, arguments in listed():
            with self.subTest(name):
                parameters = inspect.signature(function).parameters
                self.assertEqual(list(parameters), list(arguments))
                for parameter in parameters.values():
                    self.assertIs(parameter.kind, inspect.Parameter.POSITIONAL_OR_KEYWORD)
                    self.assertIs(parameter.default, inspect.Parameter.empty)

    def test_by_position_by_name_and_again(self):
        for file, name, function, arguments in listed():
            with self.subTest(name):
                if file == "services":
                    continue
                self.assert_calls(function(*arguments.values()), function, **arguments)

    def test_results(self):
        for _, name, function, arguments in listed():
            with self.subTest(name):
                found = function(**arguments)
                self.assertTrue(is_plain(found) or name == "read_service")
                whether = name.startswith(WHETHER[:4]) or name.endswith(WHETHER[4:])
                self.assertIs(found.__class__ is bool, whether)

    def test_whether_is_told_by_bools(self):
        for _, name, function, arguments in listed():
            if "thing" in arguments:
                for thing in (None, (), [], {}, 0, "", False, [0], ((),), (0, (), ()), (0, 1), ((1, 1),), ("within",),
                              ("sure", ()), ("best",), ("alike",), ("same", None), ("draws", []), ("nearest",),
                              ("more", None), ("fillings", []), ("least",), ("most", 0, None),
                              ("grows", (), ())) + JUNK:
                    with self.subTest(name=name, thing=thing):
                        self.assertIs(function(**dict(arguments, thing=thing)).__class__, bool)


class ServiceInterfaceTest(Case):
    def test_methods_are_defined_in_the_class(self):
        tree = ast.parse((PACKAGE / "services.py").read_text())
        body = [part for part in tree.body if isinstance(part, ast.ClassDef) and part.name == "Service"][0].body
        defined = [part.name for part in body if isinstance(part, ast.FunctionDef)]
        self.assertEqual([name for name in METHODS if name not in defined], [])
        self.assertEqual(Service.__module__, "drawnbits.services")
        self.assertEqual(list(inspect.signature(Service).parameters), [])

    def test_parameters(self):
        for name, arguments in METHODS.items():
            parameters = inspect.signature(getattr(Service(), name)).parameters
            self.assertEqual(list(parameters), list(arguments))
            for parameter in parameters.values():
                self.assertIs(parameter.kind, inspect.Parameter.POSITIONAL_OR_KEYWORD)
                self.assertIs(parameter.default, inspect.Parameter.empty)

    def test_by_position_by_name_and_again(self):
        for name, arguments in METHODS.items():
            with self.subTest(name):
                found = []
                for k in range(3):
                    one = shop()
                    if name == "release":
                        one.claim(("bits", "coin", (1, 1)))
                    before = (one.standing(), one.undoable(), one.redoable())
                    call = getattr(one, name)
                    told = call(*arguments.values()) if k == 0 else call(**arguments)
                    after = (one.standing(), one.undoable(), one.redoable())
                    self.assertIs(before == after, name in ASKED)
                    self.assertIs(told is None, name not in RETURNING)
                    if name == "copied":
                        self.assertIs(told.__class__, Service)
                        told = told.standing()
                    self.assertTrue(is_plain(told))
                    found.append((told, after))
                self.assert_same(found[1:], found[:1] * 2)

    def test_texts_by_position_by_name_and_again(self):
        text = FUNCTIONS["services"]["read_service"]["text"]
        module = importlib.import_module("drawnbits.services")
        for found in (module.read_service(text), module.read_service(text=text), module.read_service(text)):
            self.assertIs(found.__class__, Service)
            self.assert_same(found.text(), text)

    def test_services_that_are_passed_stay_as_they_were(self):
        before = (SHOP.standing(), SHOP.undoable(), SHOP.redoable())
        for _, _, function, arguments in listed():
            for parameter in arguments:
                for value in (SHOP, (SHOP,), [SHOP], (1, SHOP), ("most", SHOP, ())):
                    try:
                        function(**dict(arguments, **{parameter: value}))
                    except errors.DrawError as error:
                        self.assertIs(getattr(error, "thing", value), value)
        self.assert_same((SHOP.standing(), SHOP.undoable(), SHOP.redoable()), before)


if __name__ == "__main__":
    unittest.main()
