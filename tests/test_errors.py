"""The error classes, as the interface lists them."""

import inspect
import unittest

from drawnbits import errors
from support import SHOP, Case

THING = ("BadFraction", "BadTable", "BadOutcome", "BadLot", "BadNumber", "BadBits", "BadFigures", "BadMachine",
         "BadProgram", "BadFillings", "BadModel", "BadRow", "BadWords", "BadWay", "OtherSize", "BadClaim")
PARAMETERS = dict([(name, ("thing",)) for name in THING])
PARAMETERS.update({"Endless": ("certificate",), "TooMany": ("most",), "Unkept": ("claim",), "NothingToUndo": (),
                   "NothingToRedo": (), "BadText": ("at",)})
VALUES = (None, True, 0, -7, 10 ** 99, "", "text", (), (1, 2), [], [1, [2]], {}, {"a": (1,)}, SHOP)


class ErrorsTest(Case):
    def test_base_class(self):
        self.assertEqual(errors.DrawError.__bases__, (Exception,))

    def test_just_these_classes(self):
        found = [name for name, value in vars(errors).items() if inspect.isclass(value)]
        self.assertEqual(sorted(found), sorted(list(PARAMETERS) + ["DrawError"]))

    def test_direct_subclasses(self):
        for name in PARAMETERS:
            with self.subTest(name):
                self.assertEqual(getattr(errors, name).__bases__, (errors.DrawError,))
                self.assertEqual(getattr(errors, name).__module__, "drawnbits.errors")

    def test_parameters_are_attributes(self):
        for name, parameters in PARAMETERS.items():
            for value in VALUES if parameters else ():
                with self.subTest(name=name, value=value):
                    made = getattr(errors, name)
                    by_position = made(value)
                    by_name = made(**{parameters[0]: value})
                    self.assertIs(getattr(by_position, parameters[0]), value)
                    self.assertIs(getattr(by_name, parameters[0]), value)
                    self.assertEqual(list(vars(by_position)), [parameters[0]])
                    self.assertEqual(list(vars(by_name)), [parameters[0]])

    def test_without_parameters(self):
        for name in ("NothingToUndo", "NothingToRedo"):
            with self.subTest(name):
                self.assertEqual(vars(getattr(errors, name)()), {})
                with self.assertRaises(TypeError):
                    getattr(errors, name)(1)

    def test_no_other_parameters(self):
        for name, parameters in PARAMETERS.items():
            with self.subTest(name):
                made = getattr(errors, name)
                self.assertEqual(tuple(inspect.signature(made.__init__).parameters)[1:], parameters)
                with self.assertRaises(TypeError):
                    made(1, 2)
                with self.assertRaises(TypeError):
                    made(other=1)
                if parameters:
                    with self.assertRaises(TypeError):
                        made()

    def test_can_be_raised_and_caught(self):
        for name, parameters in PARAMETERS.items():
            with self.subTest(name):
                with self.assertRaises(errors.DrawError) as caught:
                    raise getattr(errors, name)(*[5 for _ in parameters])
                self.assertIs(caught.exception.__class__, getattr(errors, name))


if __name__ == "__main__":
    unittest.main()
