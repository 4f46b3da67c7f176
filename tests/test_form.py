"""The form of the package's own files: the small part of the language that the program keeps to."""

import ast
import builtins
import pathlib
import re
import unittest

PACKAGE = pathlib.Path(__file__).resolve().parent.parent / "seathouses"

STATEMENTS = (
    ast.FunctionDef, ast.ClassDef, ast.ImportFrom, ast.Assign, ast.AugAssign, ast.If, ast.While, ast.For, ast.Return,
    ast.Break, ast.Continue, ast.Pass, ast.Raise, ast.Try, ast.Expr,
)
EXPRESSIONS = (
    ast.Constant, ast.Name, ast.List, ast.Tuple, ast.Dict, ast.BinOp, ast.UnaryOp, ast.BoolOp, ast.Compare, ast.IfExp,
    ast.Call, ast.Attribute, ast.Subscript, ast.Slice, ast.ListComp, ast.JoinedStr, ast.FormattedValue, ast.Lambda,
)
OWN_NAMES = """
    len range enumerate zip min max sum abs sorted reversed int str bool list tuple dict set frozenset isinstance ord
    repr any all divmod Exception ValueError TypeError KeyError IndexError LookupError ZeroDivisionError
    ArithmeticError OverflowError RuntimeError NotImplementedError AttributeError StopIteration
""".split()
OWN_METHODS = """
    append clear copy count endswith extend find get index insert isalnum isalpha isdigit islower isspace isupper items
    join keys ljust lower lstrip partition pop remove replace reverse rfind rjust rpartition rsplit rstrip setdefault
    split splitlines startswith strip update upper values zfill bit_length
""".split()
PYTHONS_METHODS = {name for kind in (str, int, list, dict, set, tuple, bytes) for name in dir(kind)}
WORDS = re.compile(
    r"\b(type|typing|typing_extensions|enum|Enum|IntEnum|StrEnum|Flag|IntFlag|Generic|Protocol|ABC|ABCMeta|namedtuple"
    r"|NamedTuple|TypedDict|TYPE_CHECKING|abstractmethod|register|mro|elements|open|input|super|vars)\b"
    r"|dataclass|overload|contextmanager")
PLAIN_NAME = re.compile(r"^([A-Za-z][A-Za-z0-9_]*|__init__)$")


def sources():
    return {path: path.read_text("utf-8") for path in sorted(PACKAGE.glob("*.py"))}


def trees():
    return {path.stem: ast.parse(text) for path, text in sources().items()}


def nodes(kinds):
    return [(stem, node) for stem, tree in trees().items() for node in ast.walk(tree) if isinstance(node, kinds)]


def bound_at_top(tree):
    names = []
    for node in tree.body:
        if isinstance(node, (ast.FunctionDef, ast.ClassDef)):
            names.append(node.name)
        elif isinstance(node, ast.Assign):
            names.append(node.targets[0].id)
    return names


def given_names(node):
    """The names of a def's parameters and of what it binds."""
    names = [part.arg for part in ast.walk(node) if isinstance(part, ast.arg)]
    return names + [part.id for part in ast.walk(node) if isinstance(part, ast.Name) and isinstance(part.ctx, ast.Store)]


class FormTest(unittest.TestCase):
    def test_files(self):
        names = [path.name for path in PACKAGE.iterdir() if path.name != "__pycache__"]
        self.assertIn("__init__.py", names)
        for name in names:
            self.assertRegex(name, r"^([a-z][a-z0-9_]*|__init__)\.py$")
            self.assertNotIn(name[:-3], dir(builtins))

    def test_signs_and_sizes(self):
        for path, text in sources().items():
            self.assertRegex(text, r"^[ -~\n]*$", path.name)
            self.assertLessEqual(len(text.splitlines()), 400, path.name)
            self.assertLessEqual(max([len(row) for row in text.splitlines()]), 120, path.name)
            self.assertIsNone(WORDS.search(text), path.name)
        for stem, node in nodes(ast.FunctionDef):
            self.assertLessEqual(node.end_lineno - node.lineno + 1, 40, (stem, node.name))

    def test_statements_and_expressions(self):
        for stem, node in nodes((ast.stmt, ast.expr)):
            self.assertIsInstance(node, STATEMENTS + EXPRESSIONS, (stem, node.lineno))
        for stem, node in nodes(ast.Assign):
            self.assertEqual(len(node.targets), 1, (stem, node.lineno))
        for stem, node in nodes((ast.For, ast.While)):
            self.assertEqual(node.orelse, [], (stem, node.lineno))
        for stem, node in nodes(ast.ListComp):
            self.assertEqual(len(node.generators), 1, (stem, node.lineno))
            self.assertLessEqual(len(node.generators[0].ifs), 1, (stem, node.lineno))
        for stem, node in nodes(ast.Constant):
            self.assertIn(type(node.value), (int, str, bool, type(None)), (stem, node.lineno))
        for stem, node in nodes((ast.Div, ast.MatMult)):
            self.fail((stem, node))

    def test_defs(self):
        for stem, node in nodes(ast.FunctionDef):
            told = (stem, node.name)
            self.assertEqual(node.decorator_list, [], told)
            self.assertFalse(node.args.vararg or node.args.kwarg or node.args.kwonlyargs or node.args.posonlyargs, told)

    def test_names(self):
        for stem, node in nodes(ast.Name):
            if node.id in dir(builtins):
                self.assertIn(node.id, OWN_NAMES, (stem, node.lineno))
        for stem, tree in trees().items():
            imported = [part.name for node in tree.body if isinstance(node, ast.ImportFrom) for part in node.names]
            top = bound_at_top(tree)
            self.assertEqual(len(top), len(set(top)), stem)
            classes = [node.name for node in tree.body if isinstance(node, ast.ClassDef)]
            for node in ast.walk(tree):
                if isinstance(node, ast.FunctionDef):
                    self.assertRegex(node.name, PLAIN_NAME, stem)
                    for name in given_names(node):
                        self.assertRegex(name, PLAIN_NAME, (stem, node.name))
                        self.assertNotIn(name, classes + imported + dir(builtins), (stem, node.name))

    def test_methods_and_values(self):
        methods = {part.name for stem, node in nodes(ast.ClassDef) for part in node.body if
                   isinstance(part, ast.FunctionDef)}
        values = {node.attr for stem, node in nodes(ast.Attribute) if isinstance(node.ctx, ast.Store)}
        self.assertEqual(methods & values, set())
        self.assertEqual((methods | values) & PYTHONS_METHODS, {"__init__"})
        for stem, node in nodes(ast.Attribute):
            self.assertIn(node.attr, methods | values | set(OWN_METHODS), (stem, node.lineno))

    def test_imports(self):
        drawn = {}
        for stem, tree in trees().items():
            drawn[stem] = []
            for node in [node for node in ast.walk(tree) if isinstance(node, ast.ImportFrom)]:
                package, dot, source = node.module.partition(".")
                self.assertEqual((package, dot, node.level), ("seathouses", ".", 0), stem)
                drawn[stem].append(source)
                for part in node.names:
                    self.assertIsNone(part.asname, stem)
                    self.assertIn(part.name, bound_at_top(trees()[source]), stem)
        while drawn:
            ends = [stem for stem, from_these in drawn.items() if not set(from_these) & set(drawn)]
            self.assertNotEqual(ends, [], "files draw from one another")
            for stem in ends:
                drawn.pop(stem)


if __name__ == "__main__":
    unittest.main()
