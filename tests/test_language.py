"""The form of the package's files, as far as it can be seen by machine."""

import ast
import builtins
import pathlib
import re
import unittest

PACKAGE = pathlib.Path(__file__).resolve().parent.parent / "weighwalk"
STATEMENTS = (
    ast.Assign, ast.AugAssign, ast.If, ast.While, ast.For, ast.Return, ast.Break, ast.Continue, ast.Pass, ast.Raise,
    ast.Try, ast.Expr, ast.FunctionDef, ast.ClassDef, ast.ImportFrom,
)
EXPRESSIONS_OUT = (
    ast.SetComp, ast.DictComp, ast.GeneratorExp, ast.NamedExpr, ast.Starred, ast.Yield, ast.YieldFrom, ast.Await,
    ast.Div, ast.MatMult,
)
OWN_NAMES = set(
    "len range enumerate zip min max sum abs sorted reversed int str bool list tuple dict set frozenset isinstance "
    "ord repr any all divmod Exception ValueError TypeError KeyError IndexError LookupError ZeroDivisionError "
    "ArithmeticError OverflowError RuntimeError NotImplementedError AttributeError StopIteration".split()
)
METHODS = set(
    "append clear copy count endswith extend find get index insert isalnum isalpha isdigit islower isspace isupper "
    "items join keys ljust lower lstrip partition pop remove replace reverse rfind rjust rpartition rsplit rstrip "
    "setdefault split splitlines startswith strip update upper values zfill bit_length".split()
)
WORDS_OUT = (
    r"\b(type|typing|typing_extensions|enum|Enum|IntEnum|StrEnum|Flag|IntFlag|Generic|Protocol|ABC|ABCMeta|namedtuple"
    r"|NamedTuple|TypedDict|TYPE_CHECKING|abstractmethod)\b|dataclass|overload|contextmanager"
)

WALKED = ("zip", "enumerate", "reversed", "range")
WALKED_BY = ("list", "tuple", "dict", "sorted", "sum", "any", "all", "enumerate", "zip", "min", "max")


def sources():
    return [(path.name, path.read_text(encoding="utf-8")) for path in sorted(PACKAGE.glob("*.py"))]


def nodes():
    return [(name, node) for name, source in sources() for node in ast.walk(ast.parse(source))]


def is_docstring(node):
    return isinstance(node, ast.Expr) and isinstance(node.value, ast.Constant)


class Form(unittest.TestCase):
    def test_only_python_files_lie_in_the_package(self):
        found = [path.name for path in PACKAGE.iterdir() if path.name != "__pycache__"]
        self.assertIn("__init__.py", found)
        for name in found:
            self.assertRegex(name, r"^[a-z0-9_]+\.py$")

    def test_signs_and_sizes(self):
        for name, source in sources():
            self.assertRegex(source, r"\A[ -~\n]*\Z", name)
            self.assertIsNone(re.search(WORDS_OUT, source), name)
            rows = source.splitlines()
            self.assertLessEqual(len(rows), 400, name)
            self.assertLessEqual(max([len(row) for row in rows]), 120, name)

    def test_statements_and_expressions(self):
        for name, node in nodes():
            place = (name, getattr(node, "lineno", 0), ast.dump(node)[:80])
            if isinstance(node, ast.stmt):
                self.assertIsInstance(node, STATEMENTS, place)
            self.assertNotIsInstance(node, EXPRESSIONS_OUT, place)
            if isinstance(node, ast.Assign):
                self.assertEqual(len(node.targets), 1, place)
            if isinstance(node, ast.Expr) and not is_docstring(node):
                self.assertIsInstance(node.value, ast.Call, place)
            if isinstance(node, ast.Constant):
                self.assertNotIsInstance(node.value, (float, bytes, complex), place)
            if isinstance(node, (ast.For, ast.While)):
                self.assertEqual(node.orelse, [], place)

    def test_docstrings_stand_at_a_files_top_alone(self):
        for name, node in nodes():
            if isinstance(node, (ast.FunctionDef, ast.ClassDef)):
                self.assertFalse(any(is_docstring(row) for row in node.body), (name, node.name))

    def test_functions_and_classes(self):
        for name, node in nodes():
            if isinstance(node, ast.FunctionDef):
                self.assertLess(node.end_lineno - node.lineno, 40, (name, node.name))
                self.assertIsNone(node.args.vararg or node.args.kwarg, (name, node.name))
                self.assertEqual(node.args.kwonlyargs + node.decorator_list, [], (name, node.name))
            if isinstance(node, ast.ClassDef):
                self.assertLessEqual(len(node.bases), 1, (name, node.name))
                for row in node.body:
                    self.assertIsInstance(row, (ast.FunctionDef, ast.Pass), (name, node.name))

    def test_imports_are_the_packages_own(self):
        for name, node in nodes():
            if isinstance(node, ast.ImportFrom):
                self.assertEqual(node.level, 0, name)
                self.assertRegex(node.module, r"^weighwalk\.[a-z0-9_]+$", name)

    def test_names(self):
        for name, node in nodes():
            if isinstance(node, ast.Name):
                self.assertRegex(node.id, r"^[A-Za-z][A-Za-z0-9_]*$", name)
                if hasattr(builtins, node.id):
                    self.assertIn(node.id, OWN_NAMES, (name, node.lineno))
                    self.assertIsInstance(node.ctx, ast.Load, (name, node.lineno))
            if isinstance(node, ast.arg):
                self.assertFalse(hasattr(builtins, node.arg), (name, node.arg))

    def test_methods_of_pythons_own_values(self):
        pythons = set()
        for value in ("", 0, [], (), {}, set(), b""):
            pythons.update(dir(value))
        for name, node in nodes():
            if isinstance(node, ast.Attribute) and node.attr in pythons:
                self.assertIn(node.attr, METHODS | {"__init__"}, (name, node.lineno))

    def test_is_stands_beside_none_and_truths_alone(self):
        for name, node in nodes():
            if isinstance(node, ast.Compare) and isinstance(node.ops[0], (ast.Is, ast.IsNot)):
                self.assertIsInstance(node.comparators[0], ast.Constant, (name, node.lineno))
                self.assertIn(node.comparators[0].value, (None, True, False), (name, node.lineno))

    def test_no_parameter_and_no_local_is_called_like_an_import_or_a_class(self):
        for name, source in sources():
            tree = ast.parse(source)
            tops = [alias.name for row in tree.body if isinstance(row, ast.ImportFrom) for alias in row.names]
            tops = tops + [row.name for row in tree.body if isinstance(row, (ast.FunctionDef, ast.ClassDef))]
            tops = tops + [row.targets[0].id for row in tree.body if isinstance(row, ast.Assign)]
            self.assertEqual(len(set(tops)), len(tops), name)
            for function in [node for node in ast.walk(tree) if isinstance(node, ast.FunctionDef)]:
                for node in ast.walk(function):
                    if isinstance(node, ast.arg):
                        self.assertNotIn(node.arg, tops, (name, node.lineno))
                    if isinstance(node, ast.Name) and isinstance(node.ctx, ast.Store):
                        self.assertNotIn(node.id, tops, (name, node.lineno))

    def test_each_helper_stands_once_in_the_package_and_is_drawn_from_there(self):
        found = {}
        drawn = {}
        for name, source in sources():
            for row in ast.parse(source).body:
                if isinstance(row, (ast.FunctionDef, ast.ClassDef)):
                    self.assertNotIn(row.name, found, name)
                    found[row.name] = name
                if isinstance(row, ast.Assign):
                    found[row.targets[0].id] = name
        for name, node in nodes():
            if isinstance(node, ast.ImportFrom):
                drawn.setdefault(name, []).append(node.module.partition(".")[2] + ".py")
                for alias in node.names:
                    self.assertEqual(found[alias.name], drawn[name][-1], name)
                    self.assertIsNone(alias.asname, name)
        # What draws from nothing that is left is taken away; in a ring nothing could be.
        left = [name for name, source in sources()]
        while left:
            last = [name for name in left if not set(drawn.get(name, [])) & set(left)]
            self.assertNotEqual(last, [], left)
            left = [name for name in left if name not in last]

    def test_walks_and_sets_are_used_on_the_spot(self):
        for name, source in sources():
            tree = ast.parse(source)
            allowed = []
            for node in ast.walk(tree):
                if isinstance(node, (ast.For, ast.comprehension)):
                    allowed.append(node.iter)
                if isinstance(node, ast.Call) and isinstance(node.func, ast.Name) and node.func.id in WALKED_BY:
                    allowed.extend(node.args)
                if isinstance(node, ast.Call) and isinstance(node.func, ast.Name) and node.func.id in ("len", "sorted"):
                    allowed.extend([arg for arg in node.args if self.is_called(arg, ("set",))])
            for node in ast.walk(tree):
                if self.is_called(node, WALKED + ("set", "frozenset")):
                    self.assertIn(node, allowed, (name, node.lineno))

    def is_called(self, node, names):
        return isinstance(node, ast.Call) and isinstance(node.func, ast.Name) and node.func.id in names

    def test_numbers_and_texts(self):
        for name, node in nodes():
            if isinstance(node, ast.BinOp) and isinstance(node.op, ast.Pow):
                self.assertIsInstance(node.right, ast.Constant, (name, node.lineno))
            if isinstance(node, ast.Constant) and isinstance(node.value, str):
                self.assertNotIn("%", node.value, (name, node.lineno))
            if isinstance(node, ast.comprehension):
                self.assertLessEqual(len(node.ifs), 1, name)
            if isinstance(node, ast.ListComp):
                self.assertEqual(len(node.generators), 1, (name, node.lineno))
