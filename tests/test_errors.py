"""The refusals: their classes, straight under Python's, and their fields. Promises [2], [3]."""

import unittest

from yarnback import errors
from yarnback.weights import Weight

REFUSALS = {
    "Unread": (ValueError, {"text": "4 drams"}),
    "Twice": (ValueError, {"name": "ann"}),
    "NoName": (ValueError, {"name": "Ann"}),
    "NoNumber": (ValueError, {}),
    "Taken": (ValueError, {"name": "ann"}),
    "SameHour": (ValueError, {"day": 3, "hour": 7}),
    "NoRow": (ValueError, {"row": 4}),
    "NoAsk": (ValueError, {"row": "lack"}),
    "NoHome": (KeyError, {"name": "ann"}),
    "NoPiece": (KeyError, {"name": "rug"}),
    "NoMaker": (LookupError, {"piece": "rug", "home": "ann"}),
    "Unsure": (LookupError, {"thing": ("part", "rug", "ann")}),
    "NoRecord": (LookupError, {"number": 5}),
    "Beyond": (IndexError, {"ell": -1, "long": 12}),
    "Short": (ArithmeticError, {"by": Weight(drams=3)}),
    "Unfit": (ArithmeticError, {"paper": ("short", ("rug", "shawl"))}),
    "Crossed": (ArithmeticError, {}),
    "NothingMade": (ZeroDivisionError, {}),
    "Broken": (RuntimeError, {"record": ("pay", "rug", 12, 3)}),
}


class RefusalsTest(unittest.TestCase):
    def test_each_is_straight_under_its_class_of_python(self):
        for name, (base, _) in REFUSALS.items():
            with self.subTest(name=name):
                self.assertEqual(getattr(errors, name).__bases__, (base,))

    def test_each_is_defined_in_its_file(self):
        for name in REFUSALS:
            with self.subTest(name=name):
                self.assertEqual(getattr(errors, name).__module__, "yarnback.errors")

    def test_there_are_no_others(self):
        found = [name for name in dir(errors) if isinstance(getattr(errors, name), type)]
        self.assertEqual(sorted(found), sorted(REFUSALS))

    def test_each_keeps_its_fields(self):
        for name, (_, fields) in REFUSALS.items():
            with self.subTest(name=name):
                refusal = getattr(errors, name)(*fields.values())
                self.assertEqual(vars(refusal), fields)

    def test_each_can_be_shown_and_caught_by_its_class_of_python(self):
        for name, (base, fields) in REFUSALS.items():
            with self.subTest(name=name):
                with self.assertRaises(base) as caught:
                    raise getattr(errors, name)(*fields.values())
                self.assertIsInstance(str(caught.exception), str)
                self.assertIsInstance(repr(caught.exception), str)


if __name__ == "__main__":
    unittest.main()
