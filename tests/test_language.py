"""Tests of the package's own text: the interface, and the rules of LANGUAGE.md that a test can see."""

import ast
import builtins
import importlib
import inspect
import io
import pathlib
import re
import sys
import tokenize
import unittest
import warnings

FOLDER = pathlib.Path(__file__).resolve().parent.parent / "solidforms"
FILES = sorted(FOLDER.rglob("*.py"))

# The functions that the interface lists, with their parameters.
INTERFACE = {
    "errors": {},
    "solids": {"is_solid": ["value"], "count_planes": ["solid"]},
    "texts": {"format_solid": ["solid"], "parse_solid": ["text"]},
    "forms": {
        "form": ["solid"], "face_planes": ["solid"], "is_blank": ["solid"], "is_all": ["solid"],
        "inside": ["solid", "point"],
    },
    "likeness": {"same": ["solid", "other"], "is_within": ["solid", "other"], "parting": ["solid", "other"]},
    "volumes": {
        "is_bounded": ["solid"], "volume": ["solid"], "box": ["solid"], "differing_volume": ["solid", "other"],
    },
    "cells": {"count_parts": ["solid"], "count_holes": ["solid"]},
    "sections": {"section": ["solid", "axis", "level"], "along": ["solid", "point", "axis"]},
    "convex": {"is_convex": ["solid"], "halves": ["solid"], "needless_parts": ["solid"]},
    "moves": {"moves": ["solid", "other"]},
    "desks": {},
}

# The methods that it lists for the class Desk.
DESK_METHODS = {
    "__init__": ["self", "solid"], "add": ["self", "solid"], "cut": ["self", "solid"], "undo": ["self"],
    "redo": ["self"], "solid": ["self"], "__len__": ["self"], "__eq__": ["self", "other"],
}

LIBRARY = {
    "heapq": {"heappush", "heappop", "heapify", "heapreplace", "heappushpop"},
    "math": {"gcd", "lcm", "isqrt", "comb", "perm", "factorial"},
    "itertools": {"product", "combinations", "permutations", "chain", "accumulate", "pairwise",
                  "islice", "zip_longest"},
    "collections": {"defaultdict", "deque"},
    "__future__": {"annotations"},
}

BUILTINS = set(
    "len range enumerate zip min max sum abs sorted reversed int str bool bytes list tuple dict set"
    " frozenset isinstance ord repr any all divmod pow getattr hasattr setattr iter next map type"
    " super property staticmethod classmethod Exception ValueError TypeError KeyError IndexError"
    " LookupError ZeroDivisionError ArithmeticError OverflowError RuntimeError NotImplementedError"
    " AttributeError StopIteration NotImplemented object float".split())

METHODS = set(
    "append clear copy count endswith extend find get index insert isalnum isalpha isdigit islower"
    " isspace isupper items join keys ljust lower lstrip partition pop remove replace reverse rfind"
    " rjust rpartition rsplit rstrip setdefault split splitlines startswith strip update upper values"
    " zfill bit_length sort add discard title capitalize swapcase casefold center expandtabs"
    " removeprefix removesuffix rindex isascii isdecimal isnumeric istitle isidentifier isprintable"
    " translate format".split())

BARRED_NAMES = set(
    "register mro elements open input law version_info with_traceback add_note attrgetter breakpoint"
    " builtins compile copyright credits delattr dir eval exec exit gc globals help id importlib"
    " license locals methodcaller os quit vars sys".split())

BARRED_WORDS = set(
    "typing typing_extensions enum Enum IntEnum StrEnum Flag IntFlag Generic Protocol ABC ABCMeta"
    " namedtuple NamedTuple TypedDict TYPE_CHECKING abstractmethod dataclass overload"
    " contextmanager".split())

# The methods with two underscores that the package defines.
OWN_METHODS = ("__init__", "__eq__", "__len__")

# Some of these LANGUAGE.md allows in narrow places; the package does without them.
BARRED_STEPS = (
    ast.AsyncFunctionDef, ast.AsyncFor, ast.AsyncWith, ast.Await, ast.Div, ast.MatMult, ast.Import,
    ast.Global, ast.Set, ast.GeneratorExp, ast.Yield, ast.YieldFrom,
)


def trees():
    for path in FILES:
        yield path, ast.parse(path.read_text(encoding="utf-8"))


def is_plain(node):
    """Return whether a module-level value is written out."""
    try:
        ast.literal_eval(node)
    except ValueError:
        return False
    return not any(isinstance(inner, ast.Set) for inner in ast.walk(node))


def bound_names(tree):
    """Return all names that a file binds anywhere, apart from imports."""
    for node in ast.walk(tree):
        if isinstance(node, ast.Name) and not isinstance(node.ctx, ast.Load):
            yield node.id
        elif isinstance(node, ast.arg):
            yield node.arg
        elif isinstance(node, (ast.FunctionDef, ast.ClassDef)):
            yield node.name
        elif isinstance(node, ast.ExceptHandler) and node.name:
            yield node.name


class TestInterface(unittest.TestCase):

    def test_functions_stand_in_their_files(self):
        for name, functions in INTERFACE.items():
            module = importlib.import_module(f"solidforms.{name}")
            for function, parameters in functions.items():
                with self.subTest(f"{name}.{function}"):
                    found = getattr(module, function)
                    self.assertTrue(inspect.isfunction(found))
                    self.assertEqual(found.__module__, module.__name__)
                    self.assertEqual(list(inspect.signature(found).parameters), parameters)

    def test_desks_stand_in_their_file(self):
        module = importlib.import_module("solidforms.desks")
        desk = module.Desk
        self.assertTrue(inspect.isclass(desk))
        self.assertEqual((desk.__module__, desk.__bases__), (module.__name__, (object,)))
        for method, parameters in DESK_METHODS.items():
            with self.subTest(method):
                self.assertIn(method, vars(desk))
                self.assertEqual(list(inspect.signature(vars(desk)[method]).parameters), parameters)

    def test_init_defines_no_names(self):
        tree = ast.parse((FOLDER / "__init__.py").read_text(encoding="utf-8"))
        self.assertTrue(all(isinstance(node, ast.Expr) for node in tree.body))


class TestLanguage(unittest.TestCase):

    def check_all(self, faults):
        self.assertEqual(list(faults), [])

    def test_files(self):
        for path in FOLDER.rglob("*"):
            if "__pycache__" not in path.parts:
                self.assertTrue(path.is_file() and path.suffix == ".py", path)
                self.assertRegex(path.stem, r"\A(__init__|[a-z][a-z0-9_]*)\Z")
                self.assertNotIn(path.stem, dir(builtins))
        self.assertNotIn(FOLDER.name, sys.stdlib_module_names)
        self.assertTrue((FOLDER / "__init__.py").is_file())

    def test_lines(self):
        for path in FILES:
            text = path.read_text(encoding="utf-8")
            with self.subTest(path.name):
                self.assertLessEqual(len(text.splitlines()), 399)
                self.assertLessEqual(max(map(len, text.splitlines()), default=0), 120)
                self.assertRegex(text, r"\A[\n -~]*\Z")
                self.assertNotIn("_wall", text)

    def test_no_warnings(self):
        for path in FILES:
            with warnings.catch_warnings():
                warnings.simplefilter("error")
                compile(path.read_text(encoding="utf-8"), str(path), "exec")

    def test_imports(self):
        ways = {}
        for path, tree in trees():
            for node in ast.walk(tree):
                if not isinstance(node, ast.ImportFrom):
                    continue
                self.assertIn(node, tree.body)
                self.assertEqual(node.level, 0)
                names = [alias.name for alias in node.names]
                self.assertNotIn("*", names)
                if node.module in LIBRARY:
                    self.assertLessEqual(set(names), LIBRARY[node.module])
                    continue
                package, _, file = node.module.partition(".")
                self.assertEqual(package, "solidforms")
                ways.setdefault(path.stem, []).append(file)
                source = ast.parse((FOLDER / f"{file}.py").read_text(encoding="utf-8"))
                self.assertLessEqual(set(names), set(self.defined(source)))
        self.assert_no_ring(ways)

    def defined(self, tree):
        for node in tree.body:
            if isinstance(node, (ast.FunctionDef, ast.ClassDef)):
                yield node.name
            elif isinstance(node, ast.Assign):
                yield node.targets[0].id

    def assert_no_ring(self, ways):
        left = dict(ways)
        while left:
            free = [file for file, others in left.items() if not set(others) & set(left)]
            self.assertTrue(free, f"files import each other: {sorted(left)}")
            for file in free:
                del left[file]

    def test_module_level(self):
        for path, tree in trees():
            names = []
            for at, node in enumerate(tree.body):
                if isinstance(node, (ast.FunctionDef, ast.ClassDef)):
                    names.append(node.name)
                elif isinstance(node, ast.ImportFrom):
                    names.extend(alias.name for alias in node.names)
                elif isinstance(node, ast.Assign):
                    self.assertEqual(len(node.targets), 1)
                    self.assertIsInstance(node.targets[0], ast.Name)
                    self.assertTrue(is_plain(node.value), f"{path.name}:{node.lineno}")
                    names.append(node.targets[0].id)
                else:
                    self.assertTrue(at == 0 and isinstance(node, ast.Expr), f"{path.name}:{node.lineno}")
            self.assertEqual(len(names), len(set(names)), path.name)

    def test_functions(self):
        for path, tree in trees():
            for node in ast.walk(tree):
                if isinstance(node, ast.FunctionDef):
                    with self.subTest(f"{path.name}:{node.name}"):
                        self.assertLessEqual(node.end_lineno - node.lineno + 1, 40)
                        self.assertEqual(node.decorator_list, [])

    def test_steps_that_are_not_used(self):
        self.check_all(
            f"{path.name}:{node.lineno} {node!r}"
            for path, tree in trees() for node in ast.walk(tree)
            if isinstance(node, BARRED_STEPS)
            or isinstance(node, ast.Constant) and isinstance(node.value, (float, complex))
            or isinstance(node, ast.ExceptHandler) and node.type is None)

    def test_builtins(self):
        known = set(dir(builtins))
        self.check_all(
            f"{path.name}:{node.lineno} {node.id}"
            for path, tree in trees() for node in ast.walk(tree)
            if isinstance(node, ast.Name) and isinstance(node.ctx, ast.Load)
            and node.id in known and node.id not in BUILTINS)

    def test_names(self):
        taken = set(dir(builtins)) | BARRED_NAMES
        for path, tree in trees():
            imported = {alias.name for node in tree.body if isinstance(node, ast.ImportFrom)
                        for alias in node.names}
            classes = {node.name for node in tree.body if isinstance(node, ast.ClassDef)}
            outer = imported | classes | set(self.defined(tree))
            local = {node.id for top in ast.walk(tree) if isinstance(top, ast.FunctionDef)
                     for node in ast.walk(top)
                     if isinstance(node, ast.Name) and not isinstance(node.ctx, ast.Load)}
            local |= {node.arg for node in ast.walk(tree) if isinstance(node, ast.arg)}
            with self.subTest(path.name):
                self.assertEqual(sorted(local & outer), [])
                for name in bound_names(tree):
                    self.assertNotIn(name, taken)
                    if name not in OWN_METHODS:
                        self.assertRegex(name, r"\A(_|_?[A-Za-z][A-Za-z0-9_]*)\Z")

    def test_words(self):
        for path in FILES:
            source = io.StringIO(path.read_text(encoding="utf-8"))
            for token in tokenize.generate_tokens(source.readline):
                if token.type == tokenize.NAME:
                    self.assertNotIn(token.string, BARRED_WORDS, path.name)
                elif token.type == tokenize.STRING:
                    self.assertNotIn("%", token.string, path.name)
                    self.assertIsNone(re.search(r"\\[^nt\\'\"]", token.string), path.name)

    def test_methods(self):
        own = {node.name for _, tree in trees() for outer in ast.walk(tree)
               if isinstance(outer, ast.ClassDef) for node in outer.body
               if isinstance(node, ast.FunctionDef)}
        self.check_all(
            f"{path.name}:{node.lineno} {node.func.attr}"
            for path, tree in trees() for node in ast.walk(tree)
            if isinstance(node, ast.Call) and isinstance(node.func, ast.Attribute)
            and node.func.attr not in METHODS | own)

    def test_sets_are_used_on_the_spot(self):
        for path, tree in trees():
            allowed = []
            for node in ast.walk(tree):
                if isinstance(node, ast.Call) and isinstance(node.func, ast.Name):
                    if node.func.id in ("sorted", "len") and len(node.args) == 1 and not node.keywords:
                        allowed.append(node.args[0])
            for node in ast.walk(tree):
                if isinstance(node, ast.SetComp):
                    self.assertIn(node, allowed, f"{path.name}:{node.lineno}")


if __name__ == "__main__":
    unittest.main()
