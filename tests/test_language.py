"""Those rules of LANGUAGE.md that can be read off the package's files one by one."""

import ast
import builtins
import pathlib
import re
import unittest

PACKAGE = pathlib.Path(__file__).resolve().parent.parent / "callboard"
FILES = sorted(path for path in PACKAGE.rglob("*") if path.is_file() and "__pycache__" not in path.parts)
TREES = {path: ast.parse(path.read_text(encoding="utf-8")) for path in FILES if path.suffix == ".py"}

STATEMENTS = (
    ast.FunctionDef, ast.ClassDef, ast.ImportFrom, ast.Assign, ast.AugAssign, ast.If, ast.While, ast.For, ast.Return,
    ast.Break, ast.Continue, ast.Pass, ast.Raise, ast.Try, ast.Expr,
)
NOT_USED = (
    ast.SetComp, ast.DictComp, ast.GeneratorExp, ast.NamedExpr, ast.Starred, ast.Await, ast.Yield, ast.YieldFrom,
    ast.Div, ast.MatMult,
)
OWN_NAMES = set(
    "len range enumerate zip min max sum abs sorted reversed int str bool list tuple dict set frozenset isinstance ord "
    "repr any all divmod Exception ValueError TypeError KeyError IndexError LookupError ZeroDivisionError "
    "ArithmeticError OverflowError RuntimeError NotImplementedError AttributeError StopIteration".split()
)
BUILT_IN = {name for name in dir(builtins) if not name.startswith("_")}
METHODS = {"__init__", "__eq__", "__repr__", "__str__", "__len__"}
WORDS = re.compile(
    r"\b(type|typing|typing_extensions|enum|Enum|IntEnum|StrEnum|Flag|IntFlag|Generic|Protocol|ABC|ABCMeta|namedtuple"
    r"|NamedTuple|TypedDict|TYPE_CHECKING|abstractmethod)\b|dataclass|overload|contextmanager"
)
OTHERS = set().union(*[dir(kind) for kind in (str, int, list, dict, set, bytes, tuple)])
LISTED = set(
    "append clear copy count endswith extend find get index insert isalnum isalpha isdigit islower isspace isupper "
    "items join keys ljust lower lstrip partition pop remove replace reverse rfind rjust rpartition rsplit rstrip "
    "setdefault split splitlines startswith strip update upper values zfill bit_length".split()
)
WALKED = {"zip", "enumerate", "reversed", "range"}
WALKERS = {"list", "tuple", "dict", "sorted", "sum", "any", "all", "enumerate", "zip", "min", "max"}
CHANGING = set("append clear extend insert pop remove reverse setdefault update".split())
KEYWORDS = {
    "sorted": ("key", "reverse"), "min": ("key", "default"), "max": ("key", "default"), "sum": ("start",),
    "enumerate": ("start",), "zip": ("strict",),
}
VALUES_ALLOWED = set("count index title find get join lower upper split strip copy add".split())


def nodes(kind):
    return [(path, node) for path, tree in TREES.items() for node in ast.walk(tree) if isinstance(node, kind)]


def values_and_methods():
    values, methods = set(), set()
    for path, owner in nodes(ast.ClassDef):
        methods.update(node.name for node in owner.body if isinstance(node, ast.FunctionDef))
    for path, node in nodes(ast.Attribute):
        if isinstance(node.ctx, ast.Store):
            values.add(node.attr)
    return values, methods


class Language(unittest.TestCase):
    def test_files(self):
        self.assertIn(PACKAGE / "__init__.py", FILES)
        for path in FILES:
            self.assertRegex(path.name, r"^[a-z0-9_]+\.py$")

    def test_signs_and_sizes(self):
        for path in TREES:
            text = path.read_bytes().decode("utf-8")
            rows = text.split("\n")
            self.assertLessEqual(len(rows), 401, path)
            self.assertIsNone(re.search(r"[^ -~\n]", text), path)
            self.assertIsNone(WORDS.search(text), path)
            for place, row in enumerate(rows, start=1):
                self.assertLessEqual(len(row), 120, (path, place))
        for path, node in nodes(ast.FunctionDef):
            self.assertLessEqual(node.end_lineno - node.lineno + 1, 40, (path, node.name))

    def test_imports(self):
        for path, node in nodes(ast.ImportFrom):
            self.assertEqual(node.level, 0, path)
            self.assertTrue(node.module.startswith("callboard."), (path, node.module))
            self.assertIn(node, TREES[path].body, path)
            source = PACKAGE / (node.module.split(".")[1] + ".py")
            defined = {part.name for part in TREES[source].body if isinstance(part, (ast.FunctionDef, ast.ClassDef))}
            for part in TREES[source].body:
                if isinstance(part, ast.Assign):
                    defined.add(part.targets[0].id)
            for drawn in node.names:
                self.assertIn(drawn.name, defined, (path, node.module))

    def test_top_of_a_file(self):
        for path, tree in TREES.items():
            self.assertTrue(ast.get_docstring(tree), path)
            for node in tree.body[1:]:
                kinds = (ast.ImportFrom, ast.FunctionDef, ast.ClassDef, ast.Assign)
                self.assertIsInstance(node, kinds, (path, node.lineno))

    def test_statements(self):
        for path, node in nodes(ast.stmt):
            self.assertIsInstance(node, STATEMENTS, (path, node.lineno))
            if isinstance(node, ast.Assign):
                self.assertEqual(len(node.targets), 1, (path, node.lineno))
            if isinstance(node, (ast.For, ast.While)):
                self.assertEqual(node.orelse, [], (path, node.lineno))
            if isinstance(node, ast.Try):
                self.assertEqual(node.finalbody, [], (path, node.lineno))

    def test_expressions(self):
        for path, node in nodes(NOT_USED):
            self.fail((path, ast.dump(node)))
        for path, node in nodes(ast.Constant):
            self.assertNotIsInstance(node.value, (float, bytes, complex), (path, node.lineno))
        for path, node in nodes(ast.ListComp):
            self.assertEqual(len(node.generators), 1, (path, node.lineno))
            self.assertLessEqual(len(node.generators[0].ifs), 1, (path, node.lineno))
        for path, node in nodes(ast.Compare):
            for sign, side in zip(node.ops, node.comparators):
                if isinstance(sign, (ast.Is, ast.IsNot)):
                    self.assertIsInstance(side, ast.Constant, (path, node.lineno))

    def test_functions_and_classes(self):
        for path, node in nodes((ast.FunctionDef, ast.ClassDef)):
            self.assertEqual(node.decorator_list, [], (path, node.name))
        for path, node in nodes(ast.arguments):
            self.assertEqual((node.vararg, node.kwarg, node.kwonlyargs, node.posonlyargs), (None, None, [], []), path)
        for path, node in nodes(ast.ClassDef):
            self.assertIn(node, TREES[path].body, (path, node.name))
            self.assertLessEqual(len(node.bases), 1, (path, node.name))
            for part in node.body:
                self.assertIsInstance(part, (ast.FunctionDef, ast.Expr), (path, node.name))

    def test_names(self):
        for path, node in nodes(ast.Name):
            if node.id in BUILT_IN:
                self.assertIn(node.id, OWN_NAMES, (path, node.lineno))
                self.assertIsInstance(node.ctx, ast.Load, (path, node.lineno))
        for path, node in nodes((ast.FunctionDef, ast.ClassDef)):
            self.assertRegex(node.name, r"^[A-Za-z]\w*$|^(" + "|".join(METHODS) + ")$", path)
        for path, node in nodes(ast.arg):
            self.assertNotIn(node.arg, BUILT_IN, path)
            self.assertFalse(node.arg.startswith("_"), path)

    def test_values_and_methods(self):
        values, methods = values_and_methods()
        self.assertEqual(values & methods, set())
        self.assertEqual(values & OTHERS - VALUES_ALLOWED, set())
        self.assertEqual(methods & OTHERS - METHODS - VALUES_ALLOWED, set())

    def test_methods_are_listed_or_own_and_called_where_they_stand(self):
        values, methods = values_and_methods()
        called = {id(node.func) for path, node in nodes(ast.Call)}
        for path, node in nodes(ast.Attribute):
            if id(node) in called:
                self.assertIn(node.attr, LISTED | methods, (path, node.lineno))
            else:
                self.assertIn(node.attr, values, (path, node.lineno))

    def test_values_are_given_through_a_local_name(self):
        for path, node in nodes(ast.Attribute):
            if isinstance(node.ctx, ast.Store):
                self.assertIsInstance(node.value, ast.Name, (path, node.lineno))

    def test_no_local_is_called_like_a_class_or_an_import(self):
        for path, tree in TREES.items():
            kept = {drawn.name for node in tree.body if isinstance(node, ast.ImportFrom) for drawn in node.names}
            kept |= {node.name for node in tree.body if isinstance(node, (ast.FunctionDef, ast.ClassDef))}
            for node in ast.walk(tree):
                if isinstance(node, ast.arg):
                    self.assertNotIn(node.arg, kept, (path, node.lineno))
                if isinstance(node, ast.Name) and isinstance(node.ctx, ast.Store):
                    self.assertNotIn(node.id, kept, (path, node.lineno))

    def test_names_of_a_files_top_are_bound_once_and_plain(self):
        for path, tree in TREES.items():
            bound = [node.targets[0].id for node in tree.body if isinstance(node, ast.Assign)]
            bound += [node.name for node in tree.body if isinstance(node, (ast.FunctionDef, ast.ClassDef))]
            self.assertEqual(len(bound), len(set(bound)), path)
            for node in tree.body:
                if isinstance(node, ast.Assign):
                    ast.literal_eval(node.value)

    def test_no_two_files_draw_from_one_another(self):
        draws = {path.stem: set() for path in TREES}
        for path, node in nodes(ast.ImportFrom):
            draws[path.stem].add(node.module.split(".")[1])
        while draws:
            ends = {stem for stem, drawn in draws.items() if not drawn & set(draws)}
            self.assertTrue(ends, draws)
            draws = {stem: drawn for stem, drawn in draws.items() if stem not in ends}

    def test_walked_on_the_spot(self):
        spots = set()
        for path, node in nodes((ast.For, ast.comprehension)):
            spots.add(id(node.iter))
        for path, node in nodes(ast.Call):
            if isinstance(node.func, ast.Name) and node.func.id in WALKERS and node.args:
                spots.add(id(node.args[0]))
                if node.func.id == "zip":
                    spots.update(id(part) for part in node.args)
        for path, node in nodes(ast.Call):
            named = isinstance(node.func, ast.Name) and node.func.id in WALKED
            if named or isinstance(node.func, ast.Attribute) and node.func.attr in ("items", "keys", "values"):
                self.assertIn(id(node), spots, (path, node.lineno))

    def test_sets_stand_beside_a_comparison_or_within_sorted_or_len(self):
        spots = set()
        for path, node in nodes(ast.Compare):
            spots.update(id(side) for side in [node.left] + node.comparators)
        for path, node in nodes(ast.Call):
            if isinstance(node.func, ast.Name) and node.func.id in ("sorted", "len"):
                spots.update(id(part) for part in node.args)
        for path, node in nodes(ast.Call):
            if isinstance(node.func, ast.Name) and node.func.id in ("set", "frozenset"):
                self.assertIn(id(node), spots, (path, node.lineno))
        self.assertEqual(nodes(ast.Set), [])

    def test_lists_and_dicts_of_a_files_top_hold_no_others(self):
        for path, tree in TREES.items():
            for node in tree.body:
                if isinstance(node, ast.Assign):
                    for part in ast.walk(node.value):
                        if part is not node.value:
                            self.assertNotIsInstance(part, (ast.List, ast.Dict, ast.Set), (path, node.lineno))

    def test_errors_are_made_on_the_spot_and_taken_by_name(self):
        own = {node.name for path, node in nodes(ast.ClassDef) if path.stem == "errors"}
        for path, node in nodes(ast.Raise):
            self.assertIsInstance(node.exc, ast.Call, (path, node.lineno))
            self.assertIn(node.exc.func.id, own, (path, node.lineno))
        for path, node in nodes(ast.ExceptHandler):
            self.assertIsInstance(node.type, ast.Name, (path, node.lineno))
            self.assertIn(node.type.id, own | {"KeyError", "ZeroDivisionError", "StopIteration"}, (path, node.lineno))

    def test_keywords(self):
        for path, node in nodes(ast.Call):
            if node.keywords:
                self.assertIsInstance(node.func, ast.Name, (path, node.lineno))
                for keyword in node.keywords:
                    self.assertIn(keyword.arg, KEYWORDS.get(node.func.id, ()), (path, node.lineno))

    def test_no_loop_changes_what_it_walks(self):
        for path, node in nodes(ast.For):
            walked = {ast.unparse(part) for part in ast.walk(node.iter) if isinstance(part, (ast.Name, ast.Attribute))}
            for part in ast.walk(node):
                if isinstance(part, ast.Call) and isinstance(part.func, ast.Attribute) and part.func.attr in CHANGING:
                    self.assertNotIn(ast.unparse(part.func.value), walked, (path, part.lineno))
                if isinstance(part, ast.Subscript) and isinstance(part.ctx, ast.Store):
                    self.assertNotIn(ast.unparse(part.value), walked, (path, part.lineno))

    def test_texts(self):
        for path, node in nodes(ast.FormattedValue):
            self.assertIsInstance(node.value, ast.Name, (path, node.lineno))
            self.assertIsNone(node.format_spec, (path, node.lineno))
        for path, node in nodes(ast.Constant):
            if isinstance(node.value, str):
                self.assertNotIn("%", node.value, (path, node.lineno))


if __name__ == "__main__":
    unittest.main()
