"""The form of the package's code, as far as a short test can see it (../shared/LANGUAGE.md)."""

import ast
import builtins
import pathlib
import re
import unittest
import warnings

FOLDER = pathlib.Path(__file__).resolve().parent.parent / "knockwell"
FILES = sorted(FOLDER.glob("*.py"))
ALLOWED = set(
    "len range enumerate zip min max sum abs sorted reversed int str bool bytes list tuple dict set frozenset "
    "isinstance ord repr any all divmod super property staticmethod classmethod Exception ValueError TypeError "
    "KeyError IndexError LookupError ZeroDivisionError ArithmeticError OverflowError RuntimeError "
    "NotImplementedError AttributeError StopIteration NotImplemented".split())
BARRED = re.compile(
    r"\b(type|typing|typing_extensions|enum|Enum|IntEnum|StrEnum|Flag|IntFlag|Generic|Protocol|ABC|ABCMeta|"
    r"namedtuple|NamedTuple|TypedDict|TYPE_CHECKING|abstractmethod)\b|dataclass|overload|contextmanager")
BARRED_NODES = (ast.Global, ast.AsyncFunctionDef, ast.AsyncFor, ast.AsyncWith, ast.Await, ast.Import, ast.Div)


def each_node():
    for file in FILES:
        for node in ast.walk(ast.parse(file.read_text("utf-8"))):
            yield file.name, node


def names_in(node):
    """The names that a node binds or reads."""
    for field in ("id", "name", "arg", "attr", "asname"):
        value = getattr(node, field, None)
        if isinstance(value, str):
            yield value


class Language(unittest.TestCase):
    def test_the_folder_contains_nothing_else(self):
        others = [one.name for one in FOLDER.iterdir() if one.suffix != ".py" and one.name != "__pycache__"]
        self.assertEqual(others, [])
        self.assertIn("__init__.py", [file.name for file in FILES])

    def test_signs_words_and_sizes(self):
        for file in FILES:
            text = file.read_text("utf-8")
            self.assertIsNone(re.search(r"[^ -~\n]", text), file.name)
            self.assertIsNone(BARRED.search(text), file.name)
            self.assertLessEqual(len(text.splitlines()), 400, file.name)
            self.assertLessEqual(max(len(row) for row in text.splitlines()), 120, file.name)

    def test_no_warnings(self):
        for file in FILES:
            with warnings.catch_warnings():
                warnings.simplefilter("error")
                compile(file.read_text("utf-8"), file.name, "exec")

    def test_functions_are_short(self):
        for name, node in each_node():
            if isinstance(node, ast.FunctionDef):
                self.assertLessEqual(node.end_lineno - node.lineno + 1, 40, f"{name}: {node.name}")

    def test_imports_are_of_the_package_alone(self):
        for name, node in each_node():
            if isinstance(node, ast.ImportFrom):
                self.assertRegex(node.module, r"^knockwell\.[a-z]+$", name)
                self.assertEqual(node.level, 0, name)

    def test_names_and_builtins(self):
        for name, node in each_node():
            for word in names_in(node):
                if not re.fullmatch(r"__[a-z]+__", word):
                    self.assertRegex(word, r"^[A-Za-z][A-Za-z0-9_]*$", name)
            if isinstance(node, ast.Name) and hasattr(builtins, node.id):
                self.assertIn(node.id, ALLOWED, name)
                self.assertIsInstance(node.ctx, ast.Load, name)
            if isinstance(node, ast.arg):
                self.assertFalse(hasattr(builtins, node.arg), f"{name}: {node.arg}")

    def test_no_barred_parts_of_the_language(self):
        for name, node in each_node():
            self.assertNotIsInstance(node, BARRED_NODES, name)
            if isinstance(node, ast.Constant):
                self.assertNotIsInstance(node.value, (float, complex), name)
                self.assertFalse(isinstance(node.value, str) and "%" in node.value, name)
            if isinstance(node, ast.Compare) and any(isinstance(op, (ast.Is, ast.IsNot)) for op in node.ops):
                for one in node.comparators:
                    self.assertIn(getattr(one, "value", 0), (None, True, False), name)

    def test_lists_and_no_generators(self):
        # A class has `__eq__`: so `any`, `all`, `sum`, `min`, `max` and `sorted` take lists, and nothing is `.sort()`ed.
        for name, node in each_node():
            self.assertNotIsInstance(node, (ast.GeneratorExp, ast.Yield, ast.YieldFrom), name)
            if isinstance(node, ast.Attribute):
                self.assertNotEqual(node.attr, "sort", name)

    def test_finally_only_appends(self):
        for name, node in each_node():
            for row in getattr(node, "finalbody", []):
                self.assertIsInstance(row, ast.Expr, name)
                self.assertEqual(row.value.func.attr, "append", name)
                self.assertEqual(len(row.value.args), 1, name)

    def test_no_name_is_a_method_here_and_an_attribute_there(self):
        methods, attributes = set(), set()
        for _, node in each_node():
            if isinstance(node, ast.ClassDef):
                methods.update(one.name for one in node.body if isinstance(one, ast.FunctionDef))
            if isinstance(node, ast.Attribute) and isinstance(node.ctx, ast.Store):
                attributes.add(node.attr)
        self.assertEqual(methods & attributes, set())


if __name__ == "__main__":
    unittest.main()
