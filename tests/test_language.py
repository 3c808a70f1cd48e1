"""Promise [1] and the rules of the language, as far as a look at the package's files can tell.

Whole numbers alone, no clock, no chance, no files: so no module but the package's own, no float, no /, and none of
Python's own names but those that the rules list.
"""

import ast
import builtins
import pathlib
import re
import unittest

PACKAGE = pathlib.Path(__file__).resolve().parent.parent / "flatmeet"
OWN_NAMES = set("""
    len range enumerate zip min max sum abs sorted reversed int str bool list tuple dict set frozenset isinstance ord
    repr any all divmod Exception ValueError TypeError KeyError IndexError LookupError ZeroDivisionError
    ArithmeticError OverflowError RuntimeError NotImplementedError AttributeError StopIteration
""".split())
OUT = (
    ast.With, ast.Match, ast.Delete, ast.Global, ast.Nonlocal, ast.Assert, ast.Yield, ast.YieldFrom, ast.Await,
    ast.AsyncFunctionDef, ast.AsyncFor, ast.AsyncWith, ast.SetComp, ast.DictComp, ast.GeneratorExp, ast.NamedExpr,
    ast.Starred, ast.Div, ast.MatMult, ast.Import,
)
WORDS = re.compile(
    r"\b(type|typing|typing_extensions|enum|Enum|IntEnum|StrEnum|Flag|IntFlag|Generic|Protocol|ABC|ABCMeta|namedtuple"
    r"|NamedTuple|TypedDict|TYPE_CHECKING|abstractmethod)\b|dataclass|overload|contextmanager")

METHODS = set("""
    append clear copy count endswith extend find get index insert isalnum isalpha isdigit islower isspace isupper items
    join keys ljust lower lstrip partition pop remove replace reverse rfind rjust rpartition rsplit rstrip setdefault
    split splitlines startswith strip update upper values zfill bit_length
""".split())
WALKED = ("zip", "enumerate", "reversed", "range")
WALKERS = ("list", "tuple", "dict", "sorted", "sum", "any", "all", "enumerate", "zip")
KEYWORDS = {"sorted": {"key", "reverse"}, "min": {"key", "default"}, "max": {"key", "default"}, "sum": {"start"},
            "enumerate": {"start"}, "zip": {"strict"}}


def called(node):
    """The name of what is called, where it is called by a plain name."""
    return node.func.id if isinstance(node, ast.Call) and isinstance(node.func, ast.Name) else None


def named(node):
    """Every name that a node binds or reads."""
    if isinstance(node, ast.Name):
        return [node.id]
    if isinstance(node, ast.Attribute):
        return [node.attr]
    if isinstance(node, ast.arg):
        return [node.arg]
    if isinstance(node, (ast.FunctionDef, ast.ClassDef)):
        return [node.name]
    return []


class Language(unittest.TestCase):

    def setUp(self):
        self.texts = {path: path.read_text(encoding="utf-8") for path in sorted(PACKAGE.rglob("*.py"))}
        self.nodes = [(f"{path.name}:{getattr(node, 'lineno', 0)}", node)
                      for path, text in self.texts.items() for node in ast.walk(ast.parse(text))]

    def test_only_plain_python_files_lie_in_the_package(self):
        self.assertIn(PACKAGE / "__init__.py", self.texts)
        for path in PACKAGE.rglob("*"):
            if "__pycache__" not in path.parts:
                self.assertRegex(path.name, r"^[a-z0-9_]+\.py$")

    def test_signs_and_sizes(self):
        for path, text in self.texts.items():
            lines = text.split("\n")
            self.assertLessEqual(len(lines), 401, path.name)
            self.assertEqual([line for line in lines if len(line) > 120 or re.search(r"[^ -~]", line)], [], path.name)
            self.assertIsNone(WORDS.search(text), path.name)

    def test_functions_are_short(self):
        for place, node in self.nodes:
            if isinstance(node, ast.FunctionDef):
                self.assertLessEqual(node.end_lineno - node.lineno + 1, 40, place)
                self.assertEqual(node.decorator_list, [], place)

    def test_only_the_package_itself_is_imported(self):
        for place, node in self.nodes:
            if isinstance(node, ast.ImportFrom):
                self.assertEqual(node.level, 0, place)
                self.assertRegex(node.module, r"^(flatmeet\.[a-z0-9_]+|__future__)$", place)
                self.assertNotIn("*", [alias.name for alias in node.names], place)

    def test_no_form_that_the_rules_leave_out(self):
        for place, node in self.nodes:
            self.assertNotIsInstance(node, OUT, place)
            if isinstance(node, ast.Constant):
                self.assertNotIsInstance(node.value, (float, complex, bytes), place)

    def test_no_name_of_pythons_own_but_those_listed(self):
        for place, node in self.nodes:
            if isinstance(node, ast.Name):
                self.assertFalse(hasattr(builtins, node.id) and node.id not in OWN_NAMES, f"{place} {node.id}")

    def test_names_are_plain(self):
        allowed = ("__init__", "__eq__", "__repr__", "__str__", "__len__", "__all__", "__version__")
        for place, node in self.nodes:
            for name in named(node):
                self.assertFalse(name.startswith("_") and name not in allowed, f"{place} {name}")

    def test_the_top_of_each_file(self):
        for path, text in self.texts.items():
            bound = []
            for place, node in enumerate(ast.parse(text).body):
                note = f"{path.name}:{node.lineno}"
                if place == 0:
                    self.assertTrue(isinstance(node, ast.Expr) and isinstance(node.value.value, str), note)
                    continue
                self.assertIsInstance(node, (ast.ImportFrom, ast.FunctionDef, ast.ClassDef, ast.Assign), note)
                if isinstance(node, ast.ImportFrom):
                    bound.extend(alias.asname or alias.name for alias in node.names)
                elif isinstance(node, ast.Assign):
                    bound.append(node.targets[0].id)
                else:
                    bound.append(node.name)
            self.assertEqual(len(bound), len(set(bound)), path.name)

    def test_statements(self):
        for place, node in self.nodes:
            if isinstance(node, ast.Assign):
                self.assertEqual(len(node.targets), 1, place)
                self.assertNotIsInstance(node.targets[0], (ast.Tuple, ast.List), place)
            if isinstance(node, (ast.For, ast.While)):
                self.assertEqual(node.orelse, [], place)
            if isinstance(node, ast.Try):
                self.assertEqual(node.finalbody, [], place)
            if isinstance(node, ast.ListComp):
                self.assertEqual(len(node.generators), 1, place)
                self.assertLessEqual(len(node.generators[0].ifs), 1, place)
            if isinstance(node, ast.JoinedStr):
                parts = [part.value for part in node.values if isinstance(part, ast.FormattedValue)]
                self.assertTrue(all(isinstance(part, ast.Name) for part in parts), place)

    def test_functions_are_plain(self):
        for place, node in self.nodes:
            if isinstance(node, ast.FunctionDef):
                held = node.args
                self.assertEqual((held.vararg, held.kwarg, held.kwonlyargs, held.posonlyargs), (None, None, [], []))
                self.assertIsNone(node.returns, place)
                self.assertIsNone(ast.get_docstring(node), place)
            if isinstance(node, ast.arg):
                self.assertIsNone(node.annotation, place)

    def test_methods_are_listed_or_the_programs_own(self):
        own = {part.name for place, node in self.nodes if isinstance(node, ast.ClassDef) for part in node.body
               if isinstance(part, ast.FunctionDef)}
        for place, node in self.nodes:
            if isinstance(node, ast.Call) and isinstance(node.func, ast.Attribute):
                self.assertIn(node.func.attr, METHODS | own, place)

    def test_no_name_is_a_method_here_and_a_value_there(self):
        methods = {part.name for place, node in self.nodes if isinstance(node, ast.ClassDef) for part in node.body
                   if isinstance(part, ast.FunctionDef)}
        values = {node.attr for place, node in self.nodes
                  if isinstance(node, ast.Attribute) and isinstance(node.ctx, ast.Store)}
        self.assertEqual(methods & values, set())

    def test_keywords(self):
        for place, node in self.nodes:
            if isinstance(node, ast.Call):
                allowed = KEYWORDS.get(called(node), set())
                self.assertLessEqual({keyword.arg for keyword in node.keywords}, allowed, place)

    def test_what_is_walked_is_walked_on_the_spot(self):
        fine = set()
        for place, node in self.nodes:
            if isinstance(node, (ast.For, ast.comprehension)):
                fine.add(id(node.iter))
            if called(node) in WALKERS:
                fine.add(id(node.args[0]))
        for place, node in self.nodes:
            if called(node) in WALKED:
                self.assertIn(id(node), fine, place)

    def test_locals_are_not_called_like_imports_classes_or_names_of_pythons_own(self):
        for path, text in self.texts.items():
            tree = ast.parse(text)
            taken = {alias.name for node in tree.body if isinstance(node, ast.ImportFrom) for alias in node.names}
            taken |= {node.name for node in tree.body if isinstance(node, (ast.ClassDef, ast.FunctionDef))}
            for function in ast.walk(tree):
                if isinstance(function, ast.FunctionDef):
                    for node in ast.walk(function):
                        name = node.arg if isinstance(node, ast.arg) else None
                        if isinstance(node, ast.Name) and isinstance(node.ctx, ast.Store):
                            name = node.id
                        self.assertFalse(name in taken or hasattr(builtins, str(name)) and name is not None,
                                         f"{path.name}: {name}")

    def test_no_two_files_draw_from_one_another(self):
        drawn = {path.stem: {node.module.split(".")[-1] for node in ast.parse(text).body
                             if isinstance(node, ast.ImportFrom)} for path, text in self.texts.items()}
        defined = {path.stem: {getattr(node, "name", None) or node.targets[0].id for node in ast.parse(text).body
                               if isinstance(node, (ast.FunctionDef, ast.ClassDef, ast.Assign))}
                   for path, text in self.texts.items()}
        left = dict(drawn)
        while left:
            free = [name for name, others in left.items() if not others & set(left)]
            self.assertTrue(free, sorted(left))
            left = {name: others for name, others in left.items() if name not in free}
        for place, node in self.nodes:
            if isinstance(node, ast.ImportFrom):
                for alias in node.names:
                    self.assertIn(alias.name, defined[node.module.split(".")[-1]], place)


if __name__ == "__main__":
    unittest.main()
