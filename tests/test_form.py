"""The form of the package's own files: the part of ../shared/LANGUAGE.md that a short test can see."""

import ast
import builtins
import pathlib
import re
import unittest

PACKAGE = pathlib.Path(__file__).resolve().parent.parent / "gatefold"

# L6, L7: the statements and expressions there are.
NODES = set(
    """Module FunctionDef ClassDef arguments arg Return Assign AugAssign For While If Raise Try ExceptHandler
    ImportFrom alias Expr Pass Break Continue BoolOp BinOp UnaryOp Lambda IfExp Dict Set ListComp comprehension
    Compare Call keyword FormattedValue JoinedStr Constant Attribute Subscript Name List Tuple Slice Load Store
    And Or Add Sub Mult Mod Pow LShift RShift BitOr BitXor BitAnd FloorDiv Invert Not UAdd USub
    Eq NotEq Lt LtE Gt GtE Is IsNot In NotIn""".split()
)
# L8: Python's own names that may be used.
OWN_NAMES = set(
    """len range enumerate zip min max sum abs sorted reversed int str bool list tuple dict set frozenset isinstance
    ord repr any all divmod Exception ValueError TypeError KeyError IndexError LookupError ZeroDivisionError
    ArithmeticError OverflowError RuntimeError NotImplementedError AttributeError StopIteration""".split()
)
# L17: words that stand nowhere, remarks and texts too.
WORDS = re.compile(
    r"\b(type|typing|typing_extensions|enum|Enum|IntEnum|StrEnum|Flag|IntFlag|Generic|Protocol|ABC|ABCMeta|namedtuple"
    r"|NamedTuple|TypedDict|TYPE_CHECKING|abstractmethod)\b|dataclass|overload|contextmanager"
)
# L5: the methods with two underscores that there may be.
METHODS = {"__init__", "__eq__", "__repr__", "__str__", "__len__"}
# L17: names that are not used.
NOT_NAMES = {"register", "mro", "elements", "open", "input", "version_info", "with_traceback", "add_note"}

# L25: the methods of Python's own values that may be called.
OWN_METHODS = set(
    """append clear copy count endswith extend find get index insert isalnum isalpha isdigit islower isspace isupper
    items join keys ljust lower lstrip partition pop remove replace reverse rfind rjust rpartition rsplit rstrip
    setdefault split splitlines startswith strip update upper values zfill bit_length""".split()
)


def bound_at_top(tree):
    names = []
    for node in tree.body:
        if isinstance(node, (ast.FunctionDef, ast.ClassDef)):
            names.append(node.name)
        if isinstance(node, ast.Assign):
            names.extend(target.id for target in node.targets)
    return names


def plain_names(tree):
    """Every parameter, local and name of the file's top that is given a meaning, those of defs left out."""
    for node in ast.walk(tree):
        if isinstance(node, ast.arg):
            yield node.arg
        if isinstance(node, ast.Name) and isinstance(node.ctx, ast.Store):
            yield node.id


def def_names(tree):
    """Every name of a class, a function, a method or an object's value."""
    for node in ast.walk(tree):
        if isinstance(node, (ast.FunctionDef, ast.ClassDef)) and node.name not in METHODS:
            yield node.name
        if isinstance(node, ast.Attribute) and isinstance(node.ctx, ast.Store):
            yield node.attr


def drawn_names(tree):
    """Every name of a class of the file or of an import."""
    names = {node.name for node in tree.body if isinstance(node, ast.ClassDef)}
    for node in tree.body:
        if isinstance(node, ast.ImportFrom):
            names |= {alias.asname or alias.name for alias in node.names}
    return names


def method_names(tree):
    for node in tree.body:
        if isinstance(node, ast.ClassDef):
            yield from (method.name for method in node.body if isinstance(method, ast.FunctionDef))


def value_names(tree):
    for node in ast.walk(tree):
        if isinstance(node, ast.Attribute) and isinstance(node.ctx, ast.Store):
            yield node.attr


class FormTest(unittest.TestCase):
    def setUp(self):
        self.texts = {path.stem: path.read_bytes().decode("ascii") for path in PACKAGE.glob("*.py")}
        self.trees = {stem: ast.parse(text) for stem, text in self.texts.items()}

    def test_files(self):
        self.assertIn("__init__", self.texts)
        for path in PACKAGE.iterdir():
            if path.name != "__pycache__":
                self.assertRegex(path.name, r"^(__init__|__main__|[a-z][a-z0-9_]*)\.py$")

    def test_signs_lengths_and_words(self):
        for stem, text in self.texts.items():
            lines = text.split("\n")
            self.assertLessEqual(len(lines), 401, stem)
            for number, line in enumerate(lines, start=1):
                with self.subTest(stem, line=number):
                    self.assertLessEqual(len(line), 120)
                    self.assertRegex(line, r"\A[ -~]*\Z")
                    self.assertIsNone(WORDS.search(line))

    def test_statements_and_expressions(self):
        for stem, tree in self.trees.items():
            for node in ast.walk(tree):
                with self.subTest(stem, line=getattr(node, "lineno", 0)):
                    self.assertIn(node.__class__.__name__, NODES)
                    if isinstance(node, ast.FunctionDef):
                        self.assertLessEqual(node.end_lineno - node.lineno + 1, 40)
                        self.assertEqual(node.decorator_list, [])
                    if isinstance(node, ast.Assign):
                        self.assertEqual(len(node.targets), 1)
                    if isinstance(node, ast.BinOp) and isinstance(node.op, ast.Pow):
                        self.assertIsInstance(node.right, ast.Constant)
                    if isinstance(node, ast.Constant):
                        self.assertNotIsInstance(node.value, (float, complex, bytes))

    def test_names(self):
        for stem, tree in self.trees.items():
            top = bound_at_top(tree)
            self.assertEqual(len(top), len(set(top)), stem)
            for node in ast.walk(tree):
                if isinstance(node, ast.Name) and hasattr(builtins, node.id):
                    self.assertIn(node.id, OWN_NAMES, stem)
            for name in [*plain_names(tree), *def_names(tree)]:
                with self.subTest(stem, name=name):
                    self.assertRegex(name, r"\A[A-Za-z][A-Za-z0-9_]*\Z")
                    self.assertNotIn(name, NOT_NAMES)
            for name in [*plain_names(tree), *top]:
                with self.subTest(stem, name=name):
                    self.assertFalse(hasattr(builtins, name))

    def test_names_that_are_drawn_keep_their_meaning(self):
        for stem, tree in self.trees.items():
            for name in plain_names(tree):
                with self.subTest(stem, name=name):
                    self.assertNotIn(name, drawn_names(tree))

    def test_methods_and_values(self):
        methods = {name for tree in self.trees.values() for name in method_names(tree)}
        values = {name for tree in self.trees.values() for name in value_names(tree)}
        self.assertEqual(methods & values, set())
        for stem, tree in self.trees.items():
            for node in ast.walk(tree):
                if isinstance(node, ast.Call) and isinstance(node.func, ast.Attribute):
                    with self.subTest(stem, line=node.lineno):
                        self.assertIn(node.func.attr, methods | OWN_METHODS)

    def test_imports(self):
        drawn = {}
        for stem, tree in self.trees.items():
            drawn[stem] = set()
            for node in ast.walk(tree):
                if isinstance(node, ast.ImportFrom):
                    with self.subTest(stem, line=node.lineno):
                        self.assertEqual(node.level, 0)
                        self.assertRegex(node.module, r"\Agatefold\.[a-z][a-z0-9_]*\Z")
                        source = node.module.partition(".")[2]
                        drawn[stem] |= {source, "__init__"}
                        for alias in node.names:
                            self.assertIn(alias.name, bound_at_top(self.trees[source]))
        # No two files draw from one another: those that draw from none can be taken away, again and again.
        while drawn:
            ready = [stem for stem in drawn if not drawn[stem] & set(drawn)]
            self.assertNotEqual(ready, [], "files that draw from one another")
            for stem in ready:
                del drawn[stem]


if __name__ == "__main__":
    unittest.main()
