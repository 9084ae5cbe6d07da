"""The interface: names, files and parameters, and the conventions of [0.2] that hold for all functions."""

import ast
import importlib
import inspect
import pathlib
import unittest

from support import HALVES, THIRDS, Case

PACKAGE = pathlib.Path(__file__).resolve().parent.parent / "drawnbits"
# Each function of the interface with its parameters in their order, and valid arguments for them.
FUNCTIONS = {
    "tables": {
        "is_fraction": {"thing": (1, 2)},
        "is_table": {"thing": THIRDS},
        "lot_chance": {"table": THIRDS, "lot": (0, 2)},
        "renamed": {"table": THIRDS, "names": (3, 0, 3)},
        "given_lot": {"table": THIRDS, "lot": (1, 2)},
        "mixed": {"table": HALVES, "tables": (THIRDS, THIRDS)},
        "beside": {"table": HALVES, "other": THIRDS},
        "distance": {"table": HALVES, "other": ((1, 5), (4, 5))},
        "judge_near": {"table": HALVES, "other": ((1, 5), (4, 5)), "fraction": (1, 4)},
        "near_holds": {"table": HALVES, "other": ((1, 5), (4, 5)), "fraction": (1, 4), "thing": ("lot", (1,))},
        "row_chance": {"table": THIRDS, "row": (2, 0)},
        "counts_chance": {"table": THIRDS, "counts": (2, 0, 1)}},
    "figures": {
        "figures": {"fraction": (7, 12)},
        "are_figures": {"thing": (1, (0, 1), (1, 0))},
        "fraction_of": {"told": (1, (0,), (0, 1))},
        "digit": {"fraction": (7, 12), "k": 3},
        "rest_at": {"fraction": (7, 12), "k": 3},
        "weight": {"fraction": (7, 12)},
        "is_entropy_at_least": {"table": THIRDS, "fraction": (3, 2)}}}
WHETHER = ("is_", "are_", "_holds", "_hold")


def listed():
    """All functions of the interface: file, name, function and valid arguments."""
    for file, functions in FUNCTIONS.items():
        module = importlib.import_module("drawnbits." + file)
        for name, arguments in functions.items():
            yield file, name, getattr(module, name), arguments


def is_plain(thing):
    """Whether a result consists of integers, strings, bools, None and tuples."""
    if thing.__class__ is tuple:
        return all([is_plain(item) for item in thing])
    return thing is None or thing.__class__ in (int, str, bool)


class InterfaceTest(Case):
    def test_defined_where_they_are_listed(self):
        for file, name, function, _ in listed():
            with self.subTest(name):
                tree = ast.parse((PACKAGE / (file + ".py")).read_text())
                self.assertIn(name, [part.name for part in tree.body if isinstance(part, ast.FunctionDef)])
                self.assertEqual(function.__module__, "drawnbits." + file)

    def test_parameters(self):
        for _, name, function, arguments in listed():
            with self.subTest(name):
                parameters = inspect.signature(function).parameters
                self.assertEqual(list(parameters), list(arguments))
                for parameter in parameters.values():
                    self.assertIs(parameter.kind, inspect.Parameter.POSITIONAL_OR_KEYWORD)
                    self.assertIs(parameter.default, inspect.Parameter.empty)

    def test_by_position_by_name_and_again(self):
        for _, name, function, arguments in listed():
            with self.subTest(name):
                self.assert_calls(function(*arguments.values()), function, **arguments)

    def test_results(self):
        for _, name, function, arguments in listed():
            with self.subTest(name):
                found = function(**arguments)
                self.assertTrue(is_plain(found))
                whether = name.startswith(WHETHER[:2]) or name.endswith(WHETHER[2:])
                self.assertIs(found.__class__ is bool, whether)

    def test_whether_is_told_by_bools(self):
        for _, name, function, arguments in listed():
            if "thing" in arguments:
                for thing in (None, (), [], {}, 0, "", False, [0], ((),), (0, (), ()), (0, 1), ((1, 1),), ("within",)):
                    with self.subTest(name=name, thing=thing):
                        self.assertIs(function(**dict(arguments, thing=thing)).__class__, bool)


if __name__ == "__main__":
    unittest.main()
