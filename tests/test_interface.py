"""The interface: names, parameters, and the files that define them."""

import ast
import importlib
import inspect
import unittest

FUNCTIONS = {
    "rests": {
        "is_prime": ["value"], "is_rest": ["prime", "value"], "undone_rest": ["prime", "rest"],
        "sign_rest": ["prime", "rest"], "root": ["prime", "rest"], "least_odd": ["prime"],
        "two_squares": ["prime", "rest"]},
    "tables": {
        "is_row": ["prime", "value"], "is_table": ["prime", "value"], "idle": ["size"],
        "times": ["prime", "table", "other"], "led_row": ["prime", "row", "table"], "about": ["prime", "table"],
        "determinant": ["prime", "table"], "undone": ["prime", "table"]},
    "steps": {
        "steps": ["prime", "size", "rows"], "rank": ["prime", "size", "rows"], "zeros": ["prime", "size", "rows"],
        "made_of": ["prime", "size", "rows", "row"]},
    "keeping": {
        "is_lead": ["room", "other", "value"], "is_keeper": ["room", "value"], "bend": ["room", "table"],
        "is_bend": ["room", "table", "value"], "is_still": ["room", "row"], "right_angles": ["room", "rows"]},
    "plain": {
        "kind_of": ["room"], "plain_room": ["room"], "plain_by": ["prime", "kind"], "squares_lead": ["room"],
        "plain_lead": ["room"]},
    "likeness": {
        "alike": ["room", "other"], "lead": ["room", "other"]},
    "parts": {
        "is_part": ["room", "value"], "part_of": ["room", "rows"], "own_room": ["room", "part"],
        "still_in": ["room", "part"], "sum_of": ["room", "part", "other"], "meeting": ["room", "part", "other"],
        "beside_part": ["room", "part"]},
    "kinds": {
        "part_kind": ["room", "part"], "kinds": ["room"], "is_kind": ["room", "value"], "part_by": ["room", "kind"],
        "alike_parts": ["room", "part", "other"]},
    "maps": {
        "images_by": ["room", "part", "table"], "goes_on": ["room", "part", "images"],
        "bar": ["room", "part", "images"], "is_bar": ["room", "part", "images", "value"]},
    "going": {
        "keeper_on": ["room", "part", "images"], "continues": ["room", "part", "images", "value"],
        "part_lead": ["room", "part", "other"], "leads_part": ["room", "part", "other", "value"]},
    "noughts": {
        "is_nought": ["room", "part"], "nought_size": ["room"], "nought_row": ["room"],
        "greatest_nought": ["room", "part"], "is_greatest": ["room", "value"]},
    "pairs": {
        "pair_count": ["room"], "pair_rows": ["room"], "is_pair_rows": ["room", "value"],
        "same_sort": ["room", "part", "other"]},
    "rowcounts": {
        "row_count": ["room", "rest"], "worth_counts": ["room"], "rows_of": ["room", "rest"]},
    "frames": {
        "is_frame": ["room", "mates", "value"], "frame_count": ["room", "mates"], "a_frame": ["room", "mates"],
        "frames": ["room", "mates"]},
    "partcounts": {
        "keeper_count": ["room"], "part_count": ["room", "kind"], "parts_with": ["room", "kind"],
        "fixing_count": ["room", "part"], "holding_count": ["room", "part"]},
    "beside": {
        "beside": ["room", "other"], "scaled": ["room", "rest"], "taken_off": ["room", "other"]},
    "texts": {
        "sorts": [], "is_of_sort": ["sort", "value"], "written": ["sort", "value"]},
    "readers": {"read": ["text"]},
    "claims": {
        "words": [], "is_claim": ["value"], "is_true": ["claim"], "contrary": ["claim"], "paper_of": ["claim"],
        "is_paper_of": ["claim", "value"]},
    "commands": {"is_name": ["value"], "is_command": ["value"], "is_deed": ["value"]},
    "desk": {"tried": ["desk", "action"]},
}
# Of each class: the parameters of its constructor, its methods with theirs, its properties.
CLASSES = {
    "rooms": {
        "Room": (["prime", "rows"],
                 {"__init__": ["prime", "rows"], "rows": [], "worth": ["row"], "between": ["row", "other"], "still": [],
                  "led": ["table"], "__eq__": ["other"], "__repr__": []},
                 ["prime", "size", "rank"])},
    "desk": {
        "Desk": ([],
                 {"__init__": [], "do": ["command"], "do_all": ["*commands"], "attempt": ["*commands"],
                  "attach": ["label", "paper"], "fits": ["label"], "claim_of": ["label"], "lines": [], "copy": [],
                  "again": ["lines"], "__call__": ["command"], "__len__": [], "__getitem__": ["name"],
                  "__contains__": ["name"]},
                 ["names", "labels"]),
        "Trial": (["desk"], {"__init__": ["desk"], "__enter__": [], "__exit__": ["kind", "value", "trace"]}, [])},
}


def parameters(function):
    """The names of the parameters, one that takes all others with its star."""
    return [("*" if one.kind == one.VAR_POSITIONAL else "") + one.name for one in inspect.signature(function).parameters.values()]


class Interface(unittest.TestCase):

    def test_functions(self):
        for word, functions in FUNCTIONS.items():
            module = importlib.import_module(f"restkeepers.{word}")
            for name, wanted in functions.items():
                function = getattr(module, name)
                self.assertTrue(inspect.isfunction(function), name)
                self.assertEqual(function.__module__, module.__name__)
                self.assertEqual(parameters(function), wanted, name)

    def test_classes(self):
        for word, classes in CLASSES.items():
            module = importlib.import_module(f"restkeepers.{word}")
            for name, (wanted, methods, properties) in classes.items():
                made = getattr(module, name)
                self.assertEqual(made.__module__, module.__name__)
                self.assertEqual(parameters(made), wanted, name)
                for method, others in methods.items():
                    member = vars(made)[method]
                    first = "cls" if isinstance(member, classmethod) else "self"
                    self.assertEqual(parameters(getattr(member, "__func__", member)), [first] + others, method)
                for one in properties:
                    self.assertIsInstance(vars(made)[one], property)

    def test_the_class_method(self):
        desk = importlib.import_module("restkeepers.desk")
        self.assertIsInstance(vars(desk.Desk)["again"], classmethod)

    def test_each_is_defined_in_its_file(self):
        for word in list(FUNCTIONS) + list(CLASSES):
            module = importlib.import_module(f"restkeepers.{word}")
            with open(module.__file__, encoding="utf-8") as file:
                tree = ast.parse(file.read())
            defined = [node.name for node in tree.body if isinstance(node, (ast.FunctionDef, ast.ClassDef))]
            for name in list(FUNCTIONS.get(word, {})) + list(CLASSES.get(word, {})):
                self.assertEqual(defined.count(name), 1, name)


if __name__ == "__main__":
    unittest.main()
