"""The package keeps to the small part of Python that it is written in.

The rules that are plain to see from a file's tree are asked here, each under its number.
"""

import ast
import builtins
import re
import unittest
from pathlib import Path

PACKAGE = Path(__file__).resolve().parent.parent / "flipstack"
FILES = sorted(PACKAGE.glob("*.py"))

NODES = {
    "Module", "FunctionDef", "ClassDef", "ImportFrom", "alias", "arguments", "arg", "Lambda",
    "Assign", "AugAssign", "If", "While", "For", "Return", "Break", "Continue", "Pass", "Raise", "Try",
    "ExceptHandler", "Expr", "Constant", "List", "Tuple", "Dict", "Set", "Name", "Load", "Store",
    "BinOp", "UnaryOp", "BoolOp", "Compare", "IfExp", "Call", "keyword", "Attribute", "Subscript", "Slice",
    "ListComp", "comprehension", "JoinedStr", "FormattedValue", "Add", "Sub", "Mult", "FloorDiv", "Mod", "Pow",
    "BitAnd", "BitOr", "BitXor", "LShift", "RShift", "Invert", "USub", "UAdd", "Not", "And", "Or",
    "Eq", "NotEq", "Lt", "LtE", "Gt", "GtE", "In", "NotIn", "Is", "IsNot",
}
OWN_NAMES = set(
    "len range enumerate zip min max sum abs sorted reversed int str bool list tuple dict set frozenset"
    " isinstance ord repr any all divmod Exception ValueError TypeError KeyError IndexError LookupError"
    " ZeroDivisionError ArithmeticError OverflowError RuntimeError NotImplementedError AttributeError"
    " StopIteration".split()
)
METHODS = set(
    "append clear copy count endswith extend find get index insert isalnum isalpha isdigit islower isspace"
    " isupper items join keys ljust lower lstrip partition pop remove replace reverse rfind rjust rpartition"
    " rsplit rstrip setdefault split splitlines startswith strip update upper values zfill bit_length".split()
)
DUNDERS = {"__init__", "__eq__", "__repr__", "__str__", "__len__"}
WORDS = re.compile(
    r"\b(type|typing|typing_extensions|enum|Enum|IntEnum|StrEnum|Flag|IntFlag|Generic|Protocol|ABC|ABCMeta"
    r"|namedtuple|NamedTuple|TypedDict|TYPE_CHECKING|abstractmethod)\b|dataclass|overload|contextmanager"
)


def tree(path):
    return ast.parse(path.read_text(encoding="utf-8"))


def nodes(path, *kinds):
    return [node for node in ast.walk(tree(path)) if isinstance(node, kinds)]


def drawn_from(path):
    """The files that a file draws from; to draw from any is to draw from the package's own first."""
    others = [node.module.partition(".")[2] for node in nodes(path, ast.ImportFrom)]
    return others + ["__init__"] if others else []


class Language(unittest.TestCase):
    def test_there_are_files(self):
        self.assertIn(PACKAGE / "__init__.py", FILES)

    def test_l1_files_lie_in_the_package_alone(self):
        for path in PACKAGE.iterdir():
            if path.name != "__pycache__":
                self.assertRegex(path.name, r"^[a-z0-9_]+\.py$")

    def test_l2_l16_imports(self):
        for path in FILES:
            with self.subTest(file=path.name):
                for node in nodes(path, ast.ImportFrom):
                    self.assertEqual(node.col_offset, 0)
                    self.assertEqual(node.level, 0)
                    self.assertTrue(node.module.startswith("flipstack."))
                    source = tree(PACKAGE / (node.module.partition(".")[2] + ".py"))
                    defined = [row.name for row in source.body if isinstance(row, (ast.FunctionDef, ast.ClassDef))]
                    defined += [row.targets[0].id for row in source.body if isinstance(row, ast.Assign)]
                    for name in node.names:
                        self.assertIn(name.name, defined)

    def test_l16_no_two_files_draw_from_one_another(self):
        below = {path.stem: drawn_from(path) for path in FILES}
        while below:
            free = [stem for stem, others in below.items() if not any(other in below for other in others)]
            self.assertTrue(free, below)
            below = {stem: others for stem, others in below.items() if stem not in free}

    def test_l6_l7_statements_and_expressions(self):
        for path in FILES:
            with self.subTest(file=path.name):
                for node in nodes(path, ast.AST):
                    self.assertIn(type(node).__name__, NODES)
                for node in nodes(path, ast.For, ast.While):
                    self.assertEqual(node.orelse, [])
                for node in nodes(path, ast.Assign):
                    self.assertEqual(len(node.targets), 1)
                for node in nodes(path, ast.Constant):
                    self.assertNotIsInstance(node.value, (float, complex, bytes))
                for node in nodes(path, ast.ListComp):
                    self.assertEqual(len(node.generators), 1)
                    self.assertLessEqual(len(node.generators[0].ifs), 1)

    def test_l7_f_strings_hold_names_alone(self):
        for path in FILES:
            with self.subTest(file=path.name):
                for node in nodes(path, ast.FormattedValue):
                    self.assertIsInstance(node.value, ast.Name)
                    self.assertIsNone(node.format_spec)
                    self.assertIn(node.conversion, (-1, ord("r")))

    def test_l15_no_local_is_called_like_a_class_or_an_import(self):
        for path in FILES:
            taken = {name.name for node in nodes(path, ast.ImportFrom) for name in node.names}
            taken |= {node.name for node in nodes(path, ast.ClassDef)}
            with self.subTest(file=path.name):
                for node in nodes(path, ast.arg):
                    self.assertNotIn(node.arg, taken)
                for node in nodes(path, ast.Name):
                    self.assertFalse(isinstance(node.ctx, ast.Store) and node.id in taken, node.id)

    def test_l18_no_name_is_both_a_method_and_a_value(self):
        methods, values = set(), set()
        for path in FILES:
            methods |= {row.name for kind in nodes(path, ast.ClassDef) for row in kind.body
                        if isinstance(row, ast.FunctionDef)}
            values |= {node.attr for node in nodes(path, ast.Attribute) if isinstance(node.ctx, ast.Store)}
        self.assertEqual(methods & values, set())

    def test_l19_errors_are_taken_by_their_own_names(self):
        for path in FILES:
            with self.subTest(file=path.name):
                for node in nodes(path, ast.ExceptHandler):
                    self.assertIsInstance(node.type, ast.Name)
                    self.assertNotIn(node.type.id, ("Exception", "TypeError"))

    def test_l20_is_stands_beside_none_true_and_false(self):
        for path in FILES:
            with self.subTest(file=path.name):
                for node in nodes(path, ast.Compare):
                    for sign, right in zip(node.ops, node.comparators):
                        if isinstance(sign, (ast.Is, ast.IsNot)):
                            self.assertIsInstance(right, ast.Constant)
                            self.assertIn(right.value, (None, True, False))

    def test_l21_no_annotations(self):
        for path in FILES:
            with self.subTest(file=path.name):
                for node in nodes(path, ast.arg):
                    self.assertIsNone(node.annotation)
                for node in nodes(path, ast.FunctionDef):
                    self.assertIsNone(node.returns)

    def test_l4_l5_functions_and_classes(self):
        for path in FILES:
            with self.subTest(file=path.name):
                for node in nodes(path, ast.FunctionDef, ast.ClassDef):
                    self.assertEqual(node.decorator_list, [])
                for node in nodes(path, ast.arguments):
                    self.assertEqual((node.vararg, node.kwarg, node.kwonlyargs, node.posonlyargs), (None, None, [], []))
                for node in nodes(path, ast.ClassDef):
                    self.assertLessEqual(len(node.bases), 1)
                    for row in node.body:
                        self.assertIsInstance(row, (ast.FunctionDef, ast.Pass))

    def test_l8_l12_l15_names(self):
        for path in FILES:
            with self.subTest(file=path.name):
                for node in nodes(path, ast.Name, ast.arg):
                    name = node.id if isinstance(node, ast.Name) else node.arg
                    self.assertFalse(name.startswith("_"), name)
                    if isinstance(node, ast.arg) or isinstance(node.ctx, ast.Store):
                        self.assertFalse(hasattr(builtins, name), name)
                    elif hasattr(builtins, name):
                        self.assertIn(name, OWN_NAMES)
                for node in nodes(path, ast.FunctionDef):
                    self.assertTrue(not node.name.startswith("_") or node.name in DUNDERS, node.name)

    def test_l25_methods(self):
        own = {node.name for path in FILES for kind in nodes(path, ast.ClassDef) for node in kind.body
               if isinstance(node, ast.FunctionDef)}
        for path in FILES:
            with self.subTest(file=path.name):
                for node in nodes(path, ast.Call):
                    if isinstance(node.func, ast.Attribute):
                        self.assertIn(node.func.attr, METHODS | own)

    def test_l10_size(self):
        for path in FILES:
            with self.subTest(file=path.name):
                rows = path.read_text(encoding="utf-8").split("\n")
                self.assertLessEqual(len(rows), 400)
                self.assertLessEqual(max(len(row) for row in rows), 120)
                for node in nodes(path, ast.FunctionDef):
                    self.assertLessEqual(node.end_lineno - node.lineno + 1, 40, node.name)

    def test_l14_l17_signs_and_words(self):
        for path in FILES:
            with self.subTest(file=path.name):
                text = path.read_bytes().decode("ascii")
                self.assertRegex(text, r"\A[ -~\n]*\Z")
                self.assertIsNone(WORDS.search(text))


if __name__ == "__main__":
    unittest.main()
