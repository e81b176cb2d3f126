"""The package keeps to a small part of Python; this looks for what lies plainly outside it."""

import ast
import builtins
import pathlib
import re
import unittest

PACKAGE = pathlib.Path(__file__).resolve().parent.parent / "unitshares"
FILES = sorted(PACKAGE.glob("*.py"))
TREES = [(file, ast.parse(file.read_text(encoding="utf-8"))) for file in FILES]

OWN_NAMES = set((
    "len range enumerate zip min max sum abs sorted reversed int str bool list tuple dict set frozenset "
    "isinstance ord repr any all divmod Exception ValueError KeyError IndexError LookupError "
    "ZeroDivisionError ArithmeticError OverflowError RuntimeError NotImplementedError StopIteration").split())
METHODS = set((
    "append clear copy count endswith extend find get index insert isalnum isalpha isdigit islower isspace "
    "isupper items join keys ljust lower lstrip partition pop remove replace reverse rfind rjust rpartition "
    "rsplit rstrip setdefault split splitlines startswith strip update upper values zfill bit_length").split())
NODES = set((
    "Module FunctionDef ClassDef arguments arg ImportFrom alias Assign AugAssign If While For Return Break "
    "Continue Pass Raise Try ExceptHandler Expr Call Constant Name Load Store Attribute Subscript Slice List "
    "Tuple Dict BinOp UnaryOp BoolOp Compare IfExp ListComp comprehension JoinedStr FormattedValue Lambda keyword "
    "Add Sub Mult FloorDiv Mod Pow BitAnd BitOr BitXor LShift RShift USub UAdd Invert Not And Or "
    "Eq NotEq Lt LtE Gt GtE Is IsNot In NotIn").split())
WORDS = (
    r"\b(type|typing|typing_extensions|enum|Enum|IntEnum|StrEnum|Flag|IntFlag|Generic|Protocol|ABC|ABCMeta|"
    r"namedtuple|NamedTuple|TypedDict|TYPE_CHECKING|abstractmethod)\b|dataclass|overload|contextmanager")


def bound_names(tree):
    for node in ast.walk(tree):
        if isinstance(node, (ast.FunctionDef, ast.ClassDef)):
            yield node.name
        elif isinstance(node, ast.arg):
            yield node.arg
        elif isinstance(node, ast.Name) and isinstance(node.ctx, ast.Store):
            yield node.id


def inner_names(tree):
    for node in ast.walk(tree):
        if isinstance(node, ast.FunctionDef):
            for inner in ast.walk(node):
                if isinstance(inner, ast.arg):
                    yield inner.arg
                elif isinstance(inner, ast.Name) and isinstance(inner.ctx, ast.Store):
                    yield inner.id


def top_names(tree):
    for node in tree.body:
        if isinstance(node, ast.ImportFrom):
            for name in node.names:
                yield name.name
        elif isinstance(node, (ast.FunctionDef, ast.ClassDef)):
            yield node.name


class Form(unittest.TestCase):
    def test_files(self):
        self.assertIn(PACKAGE / "__init__.py", FILES)
        for path in PACKAGE.iterdir():
            if path.name != "__pycache__":
                self.assertRegex(path.name, r"^[a-z0-9_]+\.py$")

    def test_signs_and_sizes(self):
        for file, tree in TREES:
            with self.subTest(file=file.name):
                text = file.read_bytes().decode("utf-8")
                self.assertRegex(text, r"\A[ -~\n]*\Z")
                self.assertIsNone(re.search(WORDS, text))
                rows = text.split("\n")
                self.assertLessEqual(len(rows), 401)
                self.assertLessEqual(max([len(row) for row in rows]), 120)
                for node in ast.walk(tree):
                    if isinstance(node, ast.FunctionDef):
                        self.assertLessEqual(node.end_lineno - node.lineno + 1, 40, node.name)

    def test_kinds_of_code(self):
        for file, tree in TREES:
            with self.subTest(file=file.name):
                for node in ast.walk(tree):
                    self.assertIn(type(node).__name__, NODES)
                    if isinstance(node, ast.Assign):
                        self.assertEqual(len(node.targets), 1)
                    if isinstance(node, (ast.FunctionDef, ast.ClassDef)):
                        self.assertEqual(node.decorator_list, [])
                    if isinstance(node, (ast.For, ast.While)):
                        self.assertEqual(node.orelse, [])
                    if isinstance(node, ast.Attribute):
                        self.assertIn(node.attr, METHODS)

    def test_constants_and_powers(self):
        for file, tree in TREES:
            with self.subTest(file=file.name):
                for node in ast.walk(tree):
                    if isinstance(node, ast.Constant):
                        self.assertIn(type(node.value), (int, str, bool, type(None)))
                        self.assertNotIn("%", str(node.value))
                    if isinstance(node, ast.BinOp) and isinstance(node.op, ast.Pow):
                        self.assertIsInstance(node.right, ast.Constant)
                        self.assertIn(node.right.value, range(65))

    def test_imports(self):
        for file, tree in TREES:
            with self.subTest(file=file.name):
                for node in ast.walk(tree):
                    if isinstance(node, ast.ImportFrom):
                        self.assertIn(node, tree.body)
                        self.assertEqual(node.level, 0)
                        self.assertRegex(node.module, r"^unitshares\.[a-z_]+$")
                        source = PACKAGE / (node.module.split(".")[1] + ".py")
                        defined = [item.name for item in ast.parse(source.read_text()).body
                                   if isinstance(item, (ast.FunctionDef, ast.ClassDef))]
                        for name in node.names:
                            self.assertIn(name.name, defined)
                            self.assertIsNone(name.asname)

    def test_names(self):
        for file, tree in TREES:
            with self.subTest(file=file.name):
                for name in bound_names(tree):
                    self.assertRegex(name, r"^[A-Za-z][A-Za-z0-9_]*$")
                    self.assertFalse(hasattr(builtins, name), name)
                top = list(top_names(tree))
                self.assertEqual(len(top), len(set(top)))
                for name in inner_names(tree):
                    self.assertNotIn(name, top)
                for node in ast.walk(tree):
                    if isinstance(node, ast.Name) and hasattr(builtins, node.id):
                        self.assertIn(node.id, OWN_NAMES)


if __name__ == "__main__":
    unittest.main()
