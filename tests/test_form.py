"""The form of the package's files: those rules of LANGUAGE.md that are plain to see, file by file.

What this finds is surely out; what it doesn't find may still be.
"""

import ast
import builtins
import pathlib
import re
import unittest

FOLDER = pathlib.Path(__file__).resolve().parent.parent / "shadowpages"

STATEMENTS = (
    "Assign AugAssign If While For Return Break Continue Pass Raise Try Expr FunctionDef ClassDef ImportFrom"
).split()
EXPRESSIONS = (
    "Constant Name List Tuple Dict Set BinOp UnaryOp BoolOp Compare IfExp Call Attribute Subscript Slice ListComp"
    " JoinedStr FormattedValue Lambda"
).split()
OPERATORS = (
    "Add Sub Mult FloorDiv Mod Pow LShift RShift BitOr BitXor BitAnd Invert Not UAdd USub And Or"
    " Eq NotEq Lt LtE Gt GtE Is IsNot In NotIn"
).split()
OTHERS = "Module arguments arg alias keyword comprehension ExceptHandler Load Store".split()
NODES = STATEMENTS + EXPRESSIONS + OPERATORS + OTHERS

OWN_NAMES = (
    "len range enumerate zip min max sum abs sorted reversed int str bool list tuple dict set frozenset isinstance"
    " ord repr any all divmod Exception ValueError TypeError KeyError IndexError LookupError ZeroDivisionError"
    " ArithmeticError OverflowError RuntimeError NotImplementedError AttributeError StopIteration"
).split()
METHODS = ("__init__", "__eq__", "__repr__", "__str__", "__len__")
NOWHERE = re.compile(
    r"\b(type|typing|typing_extensions|enum|Enum|IntEnum|StrEnum|Flag|IntFlag|Generic|Protocol|ABC|ABCMeta"
    r"|namedtuple|NamedTuple|TypedDict|TYPE_CHECKING|abstractmethod)\b|dataclass|overload|contextmanager"
)


def package_files():
    return [path for path in sorted(FOLDER.rglob("*")) if path.is_file() and "__pycache__" not in path.parts]


def each_node():
    for path in package_files():
        for node in ast.walk(ast.parse(path.read_text(encoding="utf-8"))):
            yield node, f"{path.name}:{getattr(node, 'lineno', 0)}"


class Form(unittest.TestCase):
    def test_files(self):
        self.assertIn("__init__.py", [path.name for path in package_files()])
        for path in package_files():
            self.assertRegex(path.name, r"\A([a-z][a-z0-9_]*|__init__|__main__)\.py\Z")
            self.assertNotRegex(path.name, r"\A(test|site|conftest|sitecustomize|usercustomize)")

    def test_signs_and_sizes(self):
        for path in package_files():
            text = path.read_text(encoding="utf-8")
            self.assertIsNone(re.search(r"[^ -~\n]", text), path.name)
            self.assertIsNone(NOWHERE.search(text), path.name)
            self.assertLessEqual(len(text.splitlines()), 400, path.name)
            self.assertLessEqual(max([len(line) for line in text.splitlines()], default=0), 120, path.name)

    def test_parts_of_the_language(self):
        for node, spot in each_node():
            self.assertIn(type(node).__name__, NODES, spot)
            if isinstance(node, ast.Constant):
                self.assertIn(type(node.value), (int, str, bool, type(None)), spot)
            if isinstance(node, ast.Assign):
                self.assertEqual(len(node.targets), 1, spot)

    def test_functions_and_classes(self):
        for node, spot in each_node():
            if isinstance(node, (ast.FunctionDef, ast.ClassDef)):
                self.assertEqual(node.decorator_list, [], spot)
            if isinstance(node, ast.FunctionDef):
                self.assertLessEqual(node.end_lineno - node.lineno + 1, 40, spot)
                self.assertIsNone(node.args.vararg or node.args.kwarg, spot)
                self.assertEqual(node.args.kwonlyargs + node.args.posonlyargs, [], spot)
            if isinstance(node, ast.ClassDef):
                self.assertLessEqual(len(node.bases), 1, spot)
                for part in node.body:
                    self.assertIsInstance(part, (ast.FunctionDef, ast.Pass), spot)

    def test_imports(self):
        for node, spot in each_node():
            if isinstance(node, ast.ImportFrom):
                self.assertEqual(node.level, 0, spot)
                self.assertRegex(node.module, r"\Ashadowpages\.[a-z_0-9]+\Z", spot)
                self.assertNotIn("*", [alias.name for alias in node.names], spot)

    def test_names(self):
        for node, spot in each_node():
            if isinstance(node, ast.Name):
                self.assertFalse(node.id.startswith("_"), spot)
                if hasattr(builtins, node.id):
                    self.assertIn(node.id, OWN_NAMES, spot)
                    self.assertIsInstance(node.ctx, ast.Load, spot)
            if isinstance(node, (ast.FunctionDef, ast.ClassDef)):
                self.assertTrue(node.name in METHODS or not node.name.startswith("_"), spot)
            if isinstance(node, ast.arg):
                self.assertFalse(node.arg.startswith("_") or hasattr(builtins, node.arg), spot)

    def test_no_name_is_a_method_and_a_value(self):
        methods, values = set(), set()
        for node, spot in each_node():
            if isinstance(node, ast.ClassDef):
                methods.update(part.name for part in node.body if isinstance(part, ast.FunctionDef))
            if isinstance(node, ast.Attribute) and isinstance(node.ctx, ast.Store):
                values.add(node.attr)
        self.assertEqual(methods & values, set())

    def test_no_local_is_called_like_a_class_or_an_import(self):
        for path in package_files():
            nodes = list(ast.walk(ast.parse(path.read_text(encoding="utf-8"))))
            taken = {node.name for node in nodes if isinstance(node, ast.ClassDef)}
            for node in nodes:
                if isinstance(node, ast.ImportFrom):
                    taken.update(alias.asname or alias.name for alias in node.names)
            bound = {node.arg for node in nodes if isinstance(node, ast.arg)}
            bound.update(node.id for node in nodes if isinstance(node, ast.Name) and isinstance(node.ctx, ast.Store))
            self.assertEqual(taken & bound, set(), path.name)

    def test_is_stands_beside_none_and_truths_alone(self):
        for node, spot in each_node():
            if isinstance(node, ast.Compare) and isinstance(node.ops[0], (ast.Is, ast.IsNot)):
                sides = [side.value for side in (node.left, node.comparators[0]) if isinstance(side, ast.Constant)]
                self.assertTrue(any(value is None or isinstance(value, bool) for value in sides), spot)


if __name__ == "__main__":
    unittest.main()
