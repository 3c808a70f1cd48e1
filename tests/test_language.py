"""Promise [1] and the rules of the language, as far as a look at the package's files can tell.

Whole numbers alone, no clock, no chance, no files: so no module but the package's own, no float, no /, and none of
Python's own names but those that the rules list.
"""

import ast
import builtins
import pathlib
import re
import unittest

PACKAGE = pathlib.Path(__file__).resolve().parent.parent / "flatmeet"
OWN_NAMES = set("""
    len range enumerate zip min max sum abs sorted reversed int str bool list tuple dict set frozenset isinstance ord
    repr any all divmod Exception ValueError TypeError KeyError IndexError LookupError ZeroDivisionError
    ArithmeticError OverflowError RuntimeError NotImplementedError AttributeError StopIteration
""".split())
OUT = (
    ast.With, ast.Match, ast.Delete, ast.Global, ast.Nonlocal, ast.Assert, ast.Yield, ast.YieldFrom, ast.Await,
    ast.AsyncFunctionDef, ast.AsyncFor, ast.AsyncWith, ast.SetComp, ast.DictComp, ast.GeneratorExp, ast.NamedExpr,
    ast.Starred, ast.Div, ast.MatMult, ast.Import,
)
WORDS = re.compile(
    r"\b(type|typing|typing_extensions|enum|Enum|IntEnum|StrEnum|Flag|IntFlag|Generic|Protocol|ABC|ABCMeta|namedtuple"
    r"|NamedTuple|TypedDict|TYPE_CHECKING|abstractmethod)\b|dataclass|overload|contextmanager")


def named(node):
    """Every name that a node binds or reads."""
    if isinstance(node, ast.Name):
        return [node.id]
    if isinstance(node, ast.Attribute):
        return [node.attr]
    if isinstance(node, ast.arg):
        return [node.arg]
    if isinstance(node, (ast.FunctionDef, ast.ClassDef)):
        return [node.name]
    return []


class Language(unittest.TestCase):

    def setUp(self):
        self.texts = {path: path.read_text(encoding="utf-8") for path in sorted(PACKAGE.rglob("*.py"))}
        self.nodes = [(f"{path.name}:{getattr(node, 'lineno', 0)}", node)
                      for path, text in self.texts.items() for node in ast.walk(ast.parse(text))]

    def test_only_plain_python_files_lie_in_the_package(self):
        self.assertIn(PACKAGE / "__init__.py", self.texts)
        for path in PACKAGE.rglob("*"):
            if "__pycache__" not in path.parts:
                self.assertRegex(path.name, r"^[a-z0-9_]+\.py$")

    def test_signs_and_sizes(self):
        for path, text in self.texts.items():
            lines = text.split("\n")
            self.assertLessEqual(len(lines), 401, path.name)
            self.assertEqual([line for line in lines if len(line) > 120 or re.search(r"[^ -~]", line)], [], path.name)
            self.assertIsNone(WORDS.search(text), path.name)

    def test_functions_are_short(self):
        for place, node in self.nodes:
            if isinstance(node, ast.FunctionDef):
                self.assertLessEqual(node.end_lineno - node.lineno + 1, 40, place)
                self.assertEqual(node.decorator_list, [], place)

    def test_only_the_package_itself_is_imported(self):
        for place, node in self.nodes:
            if isinstance(node, ast.ImportFrom):
                self.assertEqual(node.level, 0, place)
                self.assertRegex(node.module, r"^(flatmeet\.[a-z0-9_]+|__future__)$", place)
                self.assertNotIn("*", [alias.name for alias in node.names], place)

    def test_no_form_that_the_rules_leave_out(self):
        for place, node in self.nodes:
            self.assertNotIsInstance(node, OUT, place)
            if isinstance(node, ast.Constant):
                self.assertNotIsInstance(node.value, (float, complex, bytes), place)

    def test_no_name_of_pythons_own_but_those_listed(self):
        for place, node in self.nodes:
            if isinstance(node, ast.Name):
                self.assertFalse(hasattr(builtins, node.id) and node.id not in OWN_NAMES, f"{place} {node.id}")

    def test_names_are_plain(self):
        allowed = ("__init__", "__eq__", "__repr__", "__str__", "__len__", "__all__", "__version__")
        for place, node in self.nodes:
            for name in named(node):
                self.assertFalse(name.startswith("_") and name not in allowed, f"{place} {name}")


if __name__ == "__main__":
    unittest.main()
