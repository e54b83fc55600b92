"""The errors: their families, and what they tell."""

import inspect
import unittest

import restkeepers.errors as errors
from tests.reckon import THING

FAMILIES = {"RoomError": ValueError, "MissingError": LookupError, "StateError": RuntimeError,
            "LimitError": ArithmeticError}
MEMBERS = {
    "RoomError": {
        "InvalidImages": ["value"], "InvalidKind": ["value"], "InvalidPart": ["value"], "InvalidPrime": ["value"],
        "InvalidRest": ["value"], "InvalidRoom": ["value"], "InvalidRow": ["value"], "InvalidSize": ["value"],
        "InvalidTable": ["value"], "InvalidClaim": ["value"], "InvalidCommand": ["value"],
        "InvalidLines": ["position"], "InvalidMates": ["value"], "InvalidPaper": ["value"],
        "InvalidPlace": ["value"], "InvalidRows": ["value"], "InvalidSort": ["value"], "InvalidText": ["line"],
        "InvalidValue": ["value"]},
    "MissingError": {"UnknownLabel": ["value"], "UnknownName": ["value"]},
    "StateError": {
        "NotUndone": [], "CommandFailed": ["position"], "LabelTaken": ["label"], "NameTaken": ["name"],
        "NoSorts": [], "NoneThere": [], "NotGreatest": [], "NotNought": [], "NothingToRedo": [],
        "NothingToUndo": [], "UnlikePrimes": [], "UnlikeSizes": []},
    "LimitError": {"TooMany": ["what", "limit"]},
}
VALUES = [None, True, 0, -3, 10 ** 29, "", "text", b"x", [], [[1], (2,)], (), ((1,),), {}, {"a": [1]}, {1}, THING, len]


class Errors(unittest.TestCase):

    def each(self):
        for family, members in MEMBERS.items():
            for word, names in members.items():
                yield getattr(errors, family), getattr(errors, word), names

    def test_families_are_direct_subclasses(self):
        for word, base in FAMILIES.items():
            self.assertEqual(getattr(errors, word).__bases__, (base,))

    def test_members_are_direct_subclasses(self):
        for family, made, _ in self.each():
            self.assertEqual(made.__bases__, (family,))

    def test_all_are_defined_in_the_file(self):
        words = list(FAMILIES) + [made.__name__ for _, made, _ in self.each()]
        self.assertEqual(len(words), 4 + 19 + 2 + 12 + 1)
        for word in words:
            self.assertEqual(getattr(errors, word).__module__, "restkeepers.errors")
            self.assertEqual(getattr(errors, word).__name__, word)

    def test_each_tells_what_it_was_made_with(self):
        for _, made, names in self.each():
            for value in VALUES if names else []:
                told = [(value, at) if at else value for at in range(len(names))]
                by_position, by_name = made(*told), made(**dict(zip(names, told)))
                for got in (by_position, by_name):
                    self.assertEqual([getattr(got, name) for name in names], told)
                    self.assertEqual(vars(got), dict(zip(names, told)))

    def test_parameters_are_the_attributes(self):
        for _, made, names in self.each():
            if names:
                self.assertEqual(list(inspect.signature(made).parameters), names)
                self.assertIn("__init__", vars(made))
                self.assertRaises(TypeError, made)
                self.assertRaises(TypeError, made, *(names + [1]))

    def test_those_without_attributes_are_made_of_nothing(self):
        for _, made, names in self.each():
            if not names:
                self.assertEqual(vars(made()), {})

    def test_they_are_caught_by_their_families(self):
        for family, made, names in self.each():
            for base in (family, FAMILIES[family.__name__]):
                with self.assertRaises(base):
                    raise made(*names)

    def test_families_are_made_with_a_text(self):
        for word, base in FAMILIES.items():
            with self.assertRaises(base):
                raise getattr(errors, word)("text")


if __name__ == "__main__":
    unittest.main()
