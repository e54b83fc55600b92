"""The rules for the form of the code that a reading of the files can see."""

import ast
import builtins
import pathlib
import re
import unittest

FOLDER = pathlib.Path(__file__).resolve().parent.parent / "restkeepers"
FILES = sorted(FOLDER.rglob("*.py"))
TEXTS = {path: path.read_text(encoding="utf-8") for path in FILES}
TREES = {path: ast.parse(text) for path, text in TEXTS.items()}
LIBRARY = {"heapq", "math", "itertools", "collections"}
BUILTINS = set("""len range enumerate zip min max sum abs sorted reversed int str bool bytes list tuple dict set frozenset
    isinstance ord repr any all divmod pow getattr hasattr setattr iter next map super property staticmethod classmethod
    Exception ValueError TypeError KeyError IndexError LookupError ZeroDivisionError ArithmeticError OverflowError
    RuntimeError NotImplementedError AttributeError StopIteration NotImplemented""".split())
# Examples that were run, and the module itself, leave names with underscores there.
NAMED = {name for name in dir(builtins) if name[0] != "_"}
METHODS = set("""append clear copy count endswith extend find get index insert isalnum isalpha isdigit islower isspace
    isupper items join keys ljust lower lstrip partition pop remove replace reverse rfind rjust rpartition rsplit rstrip
    setdefault split splitlines startswith strip update upper values zfill bit_length title capitalize swapcase casefold
    center expandtabs removeprefix removesuffix rindex isascii isdecimal isnumeric istitle isidentifier isprintable
    translate add discard""".split())
NO_NAMES = set("""register mro elements open input law version_info with_traceback add_note attrgetter breakpoint builtins
    compile copyright credits delattr dir eval exec exit gc globals help id importlib license locals methodcaller os
    quit type vars sys""".split())
NO_WORDS = ["type", "typing", "typing_extensions", "enum", "Enum", "IntEnum", "StrEnum", "Flag", "IntFlag", "Generic",
            "Protocol", "ABC", "ABCMeta", "namedtuple", "NamedTuple", "TypedDict", "TYPE_CHECKING", "abstractmethod"]
FUNCTIONS = (ast.FunctionDef, ast.Lambda)


def nodes(kinds):
    for path, tree in TREES.items():
        for node in ast.walk(tree):
            if isinstance(node, kinds):
                yield f"{path.name}:{getattr(node, 'lineno', 0)}", node


def imports(tree):
    return [node for node in tree.body if isinstance(node, ast.ImportFrom)]


def defined(tree):
    """The names that a file binds at module level, but for its imports."""
    names = [node.name for node in tree.body if isinstance(node, (ast.FunctionDef, ast.ClassDef))]
    return names + [node.targets[0].id for node in tree.body if isinstance(node, ast.Assign)]


def without_docstrings(text):
    """The code alone: no comments, no docstrings."""
    tree = ast.parse(text)
    for node in ast.walk(tree):
        body = getattr(node, "body", None)
        if isinstance(body, list) and body and isinstance(body[0], ast.Expr) and \
                isinstance(body[0].value, ast.Constant) and isinstance(body[0].value.value, str):
            body[0].value.value = ""
    return ast.unparse(tree)


class Files(unittest.TestCase):

    def test_the_folder_contains_plain_files_only(self):
        for path in FOLDER.rglob("*"):
            if "__pycache__" not in path.parts:
                self.assertRegex(path.name, r"\A([a-z][a-z0-9_]*|__init__|__main__)\.py\Z")

    def test_sizes(self):
        for path, text in TEXTS.items():
            lines = text.splitlines()
            self.assertLessEqual(len(lines), 399, path)
            for line in lines:
                self.assertLessEqual(len(line), 120, line)
        for at, node in nodes(ast.FunctionDef):
            self.assertLessEqual(node.end_lineno - node.lineno + 1, 40, at)

    def test_characters(self):
        for path, text in TEXTS.items():
            self.assertRegex(text, r"\A[ -~\n]*\n\Z", path)

    def test_words(self):
        for path, text in TEXTS.items():
            code = without_docstrings(text)
            for word in NO_WORDS:
                self.assertIsNone(re.search(rf"\b{word}\b", code), (path, word))
            self.assertIsNone(re.search(r"dataclass|overload|contextmanager|_wall|_WallAttr", code), path)


class Imports(unittest.TestCase):

    def test_they_name_the_file_that_defines_the_name(self):
        by_word = {f"restkeepers.{path.stem}": tree for path, tree in TREES.items()}
        for path, tree in TREES.items():
            for node in imports(tree):
                self.assertEqual(node.level, 0)
                if node.module not in LIBRARY:
                    for alias in node.names:
                        self.assertIsNone(alias.asname)
                        self.assertIn(alias.name, defined(by_word[node.module]), path)
        for at, node in nodes(ast.Import):
            self.fail(at)

    def test_no_two_files_import_from_each_other(self):
        after = {path.stem: [node.module.split(".")[-1] for node in imports(tree) if node.module not in LIBRARY]
                 for path, tree in TREES.items()}
        while after:
            free = [word for word in after if not any(other in after for other in after[word])]
            self.assertTrue(free, after)
            for word in free:
                del after[word]

    def test_what_is_imported_is_read(self):
        for path, tree in TREES.items():
            read = {node.id for node in ast.walk(tree) if isinstance(node, ast.Name)}
            for node in imports(tree):
                for alias in node.names:
                    self.assertIn(alias.name, read, path)


class Names(unittest.TestCase):

    def test_each_is_bound_once(self):
        for path, tree in TREES.items():
            outer = defined(tree) + [alias.name for node in imports(tree) for alias in node.names]
            self.assertEqual(len(outer), len(set(outer)), path)
            for node in ast.walk(tree):
                bound = node.arg if isinstance(node, ast.arg) else None
                if isinstance(node, ast.Name) and isinstance(node.ctx, ast.Store):
                    bound = node.id
                if bound is not None and bound not in defined(tree)[-1:]:
                    self.assertFalse(bound in outer and bound.islower(), (path, bound))

    def test_no_builtin_has_another_meaning(self):
        for path, tree in TREES.items():
            for node in ast.walk(tree):
                bound = getattr(node, "arg", None) or getattr(node, "name", None)
                if isinstance(node, ast.Name):
                    bound = node.id
                    if isinstance(node.ctx, ast.Load) and bound in NAMED:
                        self.assertIn(bound, BUILTINS, (path, bound))
                        continue
                if isinstance(bound, str) and not isinstance(node, ast.alias):
                    self.assertNotIn(bound, NAMED, path)
                    self.assertNotIn(bound, NO_NAMES, path)

    def test_methods(self):
        own = {node.name for _, node in nodes(ast.FunctionDef)}
        for at, node in nodes(ast.Call):
            if isinstance(node.func, ast.Attribute):
                self.assertIn(node.func.attr, METHODS | own | {"__init__"}, at)


class Forms(unittest.TestCase):

    def test_nothing_that_the_rules_bar(self):
        for at, node in nodes((ast.Global, ast.AsyncFunctionDef, ast.Await, ast.Div, ast.MatMult, ast.Delete)):
            self.fail(at)

    def test_literals(self):
        for at, node in nodes(ast.Constant):
            self.assertNotIsInstance(node.value, (float, complex), at)
            if isinstance(node.value, str):
                self.assertNotIn("%", node.value, at)

    def test_decorators(self):
        for at, node in nodes((ast.FunctionDef, ast.ClassDef)):
            for one in node.decorator_list:
                self.assertIn(ast.unparse(one).split(".")[-1], ["property", "setter", "staticmethod", "classmethod"], at)

    def test_is(self):
        for at, node in nodes(ast.Compare):
            for sign, right in zip(node.ops, node.comparators):
                if isinstance(sign, (ast.Is, ast.IsNot)):
                    self.assertIn(getattr(right, "value", 0), (None, True, False), at)

    def test_raised_on_the_spot(self):
        for at, node in nodes(ast.Raise):
            self.assertTrue(node.exc is None or isinstance(node.exc, ast.Call), at)

    def test_no_generators_and_no_sort(self):
        for at, node in nodes((ast.GeneratorExp, ast.Yield, ast.YieldFrom)):
            self.fail(at)
        for at, node in nodes(ast.Attribute):
            self.assertNotEqual(node.attr, "sort", at)

    def test_sets_are_not_iterated(self):
        for at, node in nodes((ast.For, ast.comprehension)):
            self.assertNotIsInstance(node.iter, (ast.Set, ast.SetComp), at)
            self.assertFalse(isinstance(node.iter, ast.Call) and ast.unparse(node.iter.func) == "set", at)

    def test_views_and_ranges_are_iterated_at_once(self):
        kept = ("range", "zip", "enumerate", "reversed", "map", "items", "keys", "values")
        takers = ("list", "tuple", "dict", "sorted", "sum", "any", "all", "enumerate", "zip", "min", "max", "join")

        def name_of(node):
            return getattr(node.func, "id", getattr(node.func, "attr", None)) if isinstance(node, ast.Call) else None
        for path, tree in TREES.items():
            free = set()
            for node in ast.walk(tree):
                if isinstance(node, (ast.For, ast.comprehension)):
                    free.add(node.iter)
                elif name_of(node) in takers:
                    free |= set(node.args)
                elif isinstance(node, ast.Assign) and isinstance(node.targets[0], ast.Name):
                    free.add(node.value)
            for node in ast.walk(tree):
                self.assertTrue(name_of(node) not in kept or node in free, f"{path.name}:{getattr(node, 'lineno', 0)}")

    def test_words_that_bar_an_index(self):
        for path, text in TEXTS.items():
            self.assertIsNone(re.search(r"\(type\)|Meta|metaclass=", text), path)

    def test_errors_that_are_caught_are_own(self):
        own = {node.name for _, node in nodes(ast.ClassDef)}
        for at, node in nodes(ast.ExceptHandler):
            for one in getattr(node.type, "elts", [node.type]):
                self.assertIn(getattr(one, "id", None), own, at)

    def test_exponents(self):
        for at, node in nodes(ast.BinOp):
            if isinstance(node.op, ast.Pow):
                self.assertIsInstance(node.right, ast.Constant, at)

    def test_module_level(self):
        for path, tree in TREES.items():
            for node in tree.body:
                text = isinstance(node, ast.Expr) and isinstance(node.value, ast.Constant)
                self.assertTrue(text or isinstance(node, (ast.ImportFrom, ast.FunctionDef, ast.ClassDef, ast.Assign)),
                                path)


if __name__ == "__main__":
    unittest.main()
