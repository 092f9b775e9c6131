"""The error classes: their families, how they are made, and what they keep."""

import unittest

from ringdepth import errors
from tests.plain import Broken, odd_values

VALUE = [
    "InvalidText", "InvalidLetters", "InvalidLetter", "InvalidNumber", "InvalidPlace", "InvalidWord",
    "InvalidMachine", "InvalidRing", "InvalidWish", "InvalidChain", "InvalidKinds", "InvalidNest", "InvalidPlan",
    "InvalidSort", "InvalidClaim", "InvalidCommand",
]
POSITION = ["InvalidRows", "InvalidPlaces", "InvalidLots", "InvalidRanks", "InvalidRings", "InvalidSteps"]

LISTED = {
    "WishError": (ValueError, None),
    "StateError": (RuntimeError, None),
    "LimitError": (ArithmeticError, None),
    "InvalidLine": ("WishError", ["line"]),
    "OtherLetters": ("StateError", ["one", "other"]),
    "OtherGoals": ("StateError", ["one", "other"]),
    "NoWord": ("StateError", []),
    "NotComeTo": ("StateError", ["place"]),
    "NotWeak": ("StateError", ["one", "other"]),
    "NotOne": ("StateError", ["one", "other"]),
    "NothingToUndo": ("StateError", []),
    "CommandFailed": ("StateError", ["position"]),
    "TooMany": ("LimitError", ["what", "limit"]),
}
LISTED.update({name: ("WishError", ["value"]) for name in VALUE})
LISTED.update({name: ("WishError", ["position"]) for name in POSITION})


class ErrorsTest(unittest.TestCase):

    def test_just_these_classes(self):
        found = [name for name, what in vars(errors).items() if isinstance(what, type)]
        self.assertEqual(sorted(found), sorted(LISTED))
        self.assertEqual(len(LISTED), 35)

    def test_each_is_defined_in_this_file(self):
        for name in LISTED:
            self.assertEqual(getattr(errors, name).__module__, "ringdepth.errors")
            self.assertEqual(getattr(errors, name).__name__, name)

    def test_each_has_just_the_class_in_front_of_it(self):
        for name, (base, _) in LISTED.items():
            base = getattr(errors, base) if isinstance(base, str) else base
            self.assertEqual(getattr(errors, name).__bases__, (base,), name)

    def test_made_by_position_and_by_name(self):
        for name, (_, attributes) in LISTED.items():
            made = getattr(errors, name)
            for value in odd_values():
                values = [value if at == 0 else ("second", at) for at in range(len(attributes or []))]
                for error in (made(*values), made(**dict(zip(attributes or [], values)))):
                    for attribute, kept in zip(attributes or [], values):
                        self.assertIs(getattr(error, attribute), kept)
                    self.assertEqual(sorted(vars(error)), sorted(attributes or []))

    def test_second_attribute_takes_any_value_too(self):
        for name, (_, attributes) in LISTED.items():
            if attributes and len(attributes) == 2:
                broken = Broken()
                self.assertIs(getattr(getattr(errors, name)(1, broken), attributes[1]), broken)
                self.assertIs(getattr(getattr(errors, name)(1, True), attributes[1]), True)

    def test_wrong_numbers_of_values_are_not_taken(self):
        for name, (_, attributes) in LISTED.items():
            if attributes:
                made = getattr(errors, name)
                self.assertRaises(TypeError, made, *range(len(attributes) + 1))
                self.assertRaises(TypeError, made)
                self.assertRaises(TypeError, made, other_name=1)

    def test_caught_by_family(self):
        for name, (base, attributes) in LISTED.items():
            families = [ValueError, RuntimeError, ArithmeticError]
            made = getattr(errors, name)
            caught = [family for family in families if issubclass(made, family)]
            self.assertEqual(len(caught), 1, name)
            with self.assertRaises(caught[0]):
                raise made(*(attributes or []))


if __name__ == "__main__":
    unittest.main()
