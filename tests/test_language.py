"""Those rules of LANGUAGE.md that can be read off the package's files one by one."""

import ast
import builtins
import pathlib
import re
import unittest

PACKAGE = pathlib.Path(__file__).resolve().parent.parent / "callboard"
FILES = sorted(path for path in PACKAGE.rglob("*") if path.is_file() and "__pycache__" not in path.parts)
TREES = {path: ast.parse(path.read_text(encoding="utf-8")) for path in FILES if path.suffix == ".py"}

STATEMENTS = (
    ast.FunctionDef, ast.ClassDef, ast.ImportFrom, ast.Assign, ast.AugAssign, ast.If, ast.While, ast.For, ast.Return,
    ast.Break, ast.Continue, ast.Pass, ast.Raise, ast.Try, ast.Expr,
)
NOT_USED = (
    ast.SetComp, ast.DictComp, ast.GeneratorExp, ast.NamedExpr, ast.Starred, ast.Await, ast.Yield, ast.YieldFrom,
    ast.Div, ast.MatMult,
)
OWN_NAMES = set(
    "len range enumerate zip min max sum abs sorted reversed int str bool list tuple dict set frozenset isinstance ord "
    "repr any all divmod Exception ValueError TypeError KeyError IndexError LookupError ZeroDivisionError "
    "ArithmeticError OverflowError RuntimeError NotImplementedError AttributeError StopIteration".split()
)
BUILT_IN = {name for name in dir(builtins) if not name.startswith("_")}
METHODS = {"__init__", "__eq__", "__repr__", "__str__", "__len__"}
WORDS = re.compile(
    r"\b(type|typing|typing_extensions|enum|Enum|IntEnum|StrEnum|Flag|IntFlag|Generic|Protocol|ABC|ABCMeta|namedtuple"
    r"|NamedTuple|TypedDict|TYPE_CHECKING|abstractmethod)\b|dataclass|overload|contextmanager"
)
OTHERS = set().union(*[dir(kind) for kind in (str, int, list, dict, set, bytes, tuple)])
VALUES_ALLOWED = set("count index title find get join lower upper split strip copy add".split())


def nodes(kind):
    return [(path, node) for path, tree in TREES.items() for node in ast.walk(tree) if isinstance(node, kind)]


def values_and_methods():
    values, methods = set(), set()
    for path, owner in nodes(ast.ClassDef):
        methods.update(node.name for node in owner.body if isinstance(node, ast.FunctionDef))
    for path, node in nodes(ast.Attribute):
        if isinstance(node.ctx, ast.Store):
            values.add(node.attr)
    return values, methods


class Language(unittest.TestCase):
    def test_files(self):
        self.assertIn(PACKAGE / "__init__.py", FILES)
        for path in FILES:
            self.assertRegex(path.name, r"^[a-z0-9_]+\.py$")

    def test_signs_and_sizes(self):
        for path in TREES:
            text = path.read_bytes().decode("utf-8")
            rows = text.split("\n")
            self.assertLessEqual(len(rows), 401, path)
            self.assertIsNone(re.search(r"[^ -~\n]", text), path)
            self.assertIsNone(WORDS.search(text), path)
            for place, row in enumerate(rows, start=1):
                self.assertLessEqual(len(row), 120, (path, place))
        for path, node in nodes(ast.FunctionDef):
            self.assertLessEqual(node.end_lineno - node.lineno + 1, 40, (path, node.name))

    def test_imports(self):
        for path, node in nodes(ast.ImportFrom):
            self.assertEqual(node.level, 0, path)
            self.assertTrue(node.module.startswith("callboard."), (path, node.module))
            self.assertIn(node, TREES[path].body, path)
            source = PACKAGE / (node.module.split(".")[1] + ".py")
            defined = {part.name for part in TREES[source].body if isinstance(part, (ast.FunctionDef, ast.ClassDef))}
            for part in TREES[source].body:
                if isinstance(part, ast.Assign):
                    defined.add(part.targets[0].id)
            for drawn in node.names:
                self.assertIn(drawn.name, defined, (path, node.module))

    def test_top_of_a_file(self):
        for path, tree in TREES.items():
            self.assertTrue(ast.get_docstring(tree), path)
            for node in tree.body[1:]:
                kinds = (ast.ImportFrom, ast.FunctionDef, ast.ClassDef, ast.Assign)
                self.assertIsInstance(node, kinds, (path, node.lineno))

    def test_statements(self):
        for path, node in nodes(ast.stmt):
            self.assertIsInstance(node, STATEMENTS, (path, node.lineno))
            if isinstance(node, ast.Assign):
                self.assertEqual(len(node.targets), 1, (path, node.lineno))
            if isinstance(node, (ast.For, ast.While)):
                self.assertEqual(node.orelse, [], (path, node.lineno))
            if isinstance(node, ast.Try):
                self.assertEqual(node.finalbody, [], (path, node.lineno))

    def test_expressions(self):
        for path, node in nodes(NOT_USED):
            self.fail((path, ast.dump(node)))
        for path, node in nodes(ast.Constant):
            self.assertNotIsInstance(node.value, (float, bytes, complex), (path, node.lineno))
        for path, node in nodes(ast.ListComp):
            self.assertEqual(len(node.generators), 1, (path, node.lineno))
            self.assertLessEqual(len(node.generators[0].ifs), 1, (path, node.lineno))
        for path, node in nodes(ast.Compare):
            for sign, side in zip(node.ops, node.comparators):
                if isinstance(sign, (ast.Is, ast.IsNot)):
                    self.assertIsInstance(side, ast.Constant, (path, node.lineno))

    def test_functions_and_classes(self):
        for path, node in nodes((ast.FunctionDef, ast.ClassDef)):
            self.assertEqual(node.decorator_list, [], (path, node.name))
        for path, node in nodes(ast.arguments):
            self.assertEqual((node.vararg, node.kwarg, node.kwonlyargs, node.posonlyargs), (None, None, [], []), path)
        for path, node in nodes(ast.ClassDef):
            self.assertIn(node, TREES[path].body, (path, node.name))
            self.assertLessEqual(len(node.bases), 1, (path, node.name))
            for part in node.body:
                self.assertIsInstance(part, (ast.FunctionDef, ast.Expr), (path, node.name))

    def test_names(self):
        for path, node in nodes(ast.Name):
            if node.id in BUILT_IN:
                self.assertIn(node.id, OWN_NAMES, (path, node.lineno))
                self.assertIsInstance(node.ctx, ast.Load, (path, node.lineno))
        for path, node in nodes((ast.FunctionDef, ast.ClassDef)):
            self.assertRegex(node.name, r"^[A-Za-z]\w*$|^(" + "|".join(METHODS) + ")$", path)
        for path, node in nodes(ast.arg):
            self.assertNotIn(node.arg, BUILT_IN, path)
            self.assertFalse(node.arg.startswith("_"), path)

    def test_values_and_methods(self):
        values, methods = values_and_methods()
        self.assertEqual(values & methods, set())
        self.assertEqual(values & OTHERS - VALUES_ALLOWED, set())
        self.assertEqual(methods & OTHERS - METHODS - VALUES_ALLOWED, set())


if __name__ == "__main__":
    unittest.main()
