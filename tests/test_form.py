"""Holds the package's files against the rules of the part of Python that the program keeps to."""

import ast
import builtins
import keyword
import pathlib
import re
import unittest

PACKAGE = pathlib.Path(__file__).resolve().parent.parent / "surewatch"

OWN_NAMES = set("""len range enumerate zip min max sum abs sorted reversed int str bool list tuple dict set frozenset
    isinstance ord repr any all divmod Exception ValueError TypeError KeyError IndexError LookupError ZeroDivisionError
    ArithmeticError OverflowError RuntimeError NotImplementedError AttributeError StopIteration""".split())
METHODS = set("""append clear copy count endswith extend find get index insert isalnum isalpha isdigit islower isspace
    isupper items join keys ljust lower lstrip partition pop remove replace reverse rfind rjust rpartition rsplit rstrip
    setdefault split splitlines startswith strip update upper values zfill bit_length""".split())
NOWHERE_NAMED = set("register mro elements open input version_info with_traceback add_note format format_map".split())
NOWHERE_WRITTEN = re.compile(r"\b(type|typing|typing_extensions|enum|Enum|IntEnum|StrEnum|Flag|IntFlag|Generic|Protocol"
                             r"|ABC|ABCMeta|namedtuple|NamedTuple|TypedDict|TYPE_CHECKING|abstractmethod)\b"
                             r"|dataclass|overload|contextmanager")
STATEMENTS = (ast.Assign, ast.AugAssign, ast.If, ast.While, ast.For, ast.Return, ast.Break, ast.Continue, ast.Pass,
              ast.Raise, ast.Try, ast.Expr, ast.FunctionDef, ast.ClassDef, ast.ImportFrom)
AT_TOP = (ast.ImportFrom, ast.FunctionDef, ast.ClassDef, ast.Assign)
EXPRESSIONS = (ast.Constant, ast.List, ast.Tuple, ast.Dict, ast.BinOp, ast.UnaryOp, ast.BoolOp, ast.Compare, ast.IfExp,
               ast.Call, ast.Attribute, ast.Subscript, ast.Slice, ast.ListComp, ast.JoinedStr, ast.FormattedValue,
               ast.Name, ast.Lambda)
TWO_UNDERSCORES = set("__init__ __eq__ __repr__ __str__ __len__".split())
WALKED = ("zip", "enumerate", "reversed", "range")
OF_PYTHON = set().union(*[dir(kind) for kind in (str, int, list, dict, set, bytes, tuple)])
FILES = sorted(PACKAGE.glob("*.py"))


def trees():
    return [(path, ast.parse(path.read_text())) for path in FILES]


def nodes(kinds):
    return [(path, node) for path, tree in trees() for node in ast.walk(tree) if isinstance(node, kinds)]


def where(path, node):
    return f"{path.name}:{node.lineno}"


def bound_names(tree):
    for node in ast.walk(tree):
        if isinstance(node, ast.Name) and isinstance(node.ctx, ast.Store):
            yield node, node.id
        if isinstance(node, ast.arg):
            yield node, node.arg
        if isinstance(node, (ast.FunctionDef, ast.ClassDef)):
            yield node, node.name


class FormTest(unittest.TestCase):

    def test_files(self):
        self.assertTrue((PACKAGE / "__init__.py").is_file())
        for path in PACKAGE.iterdir():
            if path.name == "__pycache__":
                continue
            self.assertRegex(path.name, r"^[a-z][a-z0-9_]*\.py$|^__(init|main)__\.py$")
            self.assertNotIn(path.stem, dir(builtins))
            self.assertFalse(path.stem.startswith("test") or path.stem in ("site", "conftest"), path)

    def test_signs_and_sizes(self):
        for path in FILES:
            text = path.read_text()
            lines = text.split("\n")
            self.assertLessEqual(len(lines), 401, path)
            self.assertLessEqual(max(map(len, lines)), 120, path)
            self.assertTrue(all(sign == "\n" or " " <= sign <= "~" for sign in text), path)
            self.assertIsNone(NOWHERE_WRITTEN.search(text), path)
            self.assertNotIn("\\", text.replace("\\n", ""), path)

    def test_functions_are_small_and_plain(self):
        for path, node in nodes((ast.FunctionDef, ast.Lambda)):
            if isinstance(node, ast.FunctionDef):
                self.assertLessEqual(node.end_lineno - node.lineno + 1, 40, where(path, node))
                self.assertEqual(node.decorator_list, [], where(path, node))
                self.assertIsNone(node.returns, where(path, node))
            given = node.args
            self.assertFalse(given.vararg or given.kwarg or given.kwonlyargs or given.posonlyargs, where(path, node))

    def test_only_told_statements_and_expressions(self):
        for path, node in nodes((ast.stmt, ast.expr)):
            self.assertIsInstance(node, STATEMENTS + EXPRESSIONS, where(path, node))
        for path, node in nodes(ast.Assign):
            self.assertEqual(len(node.targets), 1, where(path, node))
            self.assertNotIsInstance(node.targets[0], (ast.Tuple, ast.List), where(path, node))
        for path, node in nodes((ast.For, ast.While)):
            self.assertEqual(node.orelse, [], where(path, node))
        for path, node in nodes(ast.Try):
            self.assertEqual(node.finalbody, [], where(path, node))
        for path, node in nodes(ast.ListComp):
            self.assertEqual(len(node.generators), 1, where(path, node))
            self.assertLessEqual(len(node.generators[0].ifs), 1, where(path, node))
        for path, node in nodes(ast.Constant):
            self.assertIsInstance(node.value, (int, str, bool, type(None)), where(path, node))
            self.assertFalse(isinstance(node.value, str) and "%" in node.value, where(path, node))
        for path, node in nodes(ast.BinOp):
            self.assertNotIsInstance(node.op, (ast.Div, ast.MatMult, ast.Pow), where(path, node))
        for path, node in nodes(ast.FormattedValue):
            self.assertIsInstance(node.value, ast.Name, where(path, node))

    def test_a_statement_by_itself_is_a_call_or_the_files_docstring(self):
        for path, tree in trees():
            for node in ast.walk(tree):
                if isinstance(node, ast.Expr) and node is not tree.body[0]:
                    self.assertIsInstance(node.value, ast.Call, where(path, node))

    def test_the_top_of_files(self):
        for path, tree in trees():
            self.assertIsNotNone(ast.get_docstring(tree), path)
            for node in tree.body[1:]:
                self.assertIsInstance(node, AT_TOP, where(path, node))
                if isinstance(node, ast.Assign):
                    self.assertNotIsInstance(node.value, (ast.Call, ast.ListComp, ast.Name), where(path, node))
                    for inner in ast.walk(node.value):
                        nested = inner is not node.value and isinstance(inner, (ast.List, ast.Dict))
                        self.assertFalse(nested or isinstance(inner, ast.Set), where(path, node))
            tops = [name for node, name in bound_names(ast.Module(
                [node for node in tree.body if isinstance(node, ast.Assign)], []))]
            tops += [node.name for node in tree.body if isinstance(node, (ast.FunctionDef, ast.ClassDef))]
            self.assertEqual(len(tops), len(set(tops)), path)

    def test_imports_are_the_packages_own_from_where_they_are_defined(self):
        defined = {}
        for path, tree in trees():
            defined[f"surewatch.{path.stem}"] = [name for node, name in bound_names(ast.Module(
                [node for node in tree.body if not isinstance(node, ast.ImportFrom)], []))]
        for path, node in nodes(ast.ImportFrom):
            self.assertEqual(node.level, 0, where(path, node))
            for alias in node.names:
                self.assertIn(alias.name, defined[node.module], where(path, node))
                self.assertIsNone(alias.asname, where(path, node))

    def test_no_two_files_draw_from_one_another(self):
        draws = {}
        for path, tree in trees():
            draws[path.stem] = {node.module.split(".")[1] for node in tree.body if isinstance(node, ast.ImportFrom)}
        while draws:
            free = [name for name, drawn in draws.items() if not drawn & set(draws)]
            self.assertTrue(free, draws)
            for name in free:
                draws.pop(name)

    def test_what_is_imported_is_used(self):
        for path, tree in trees():
            used = {node.id for node in ast.walk(tree) if isinstance(node, ast.Name)}
            for node in tree.body:
                for alias in node.names if isinstance(node, ast.ImportFrom) else ():
                    self.assertIn(alias.name, used, where(path, node))

    def test_names(self):
        for path, tree in trees():
            drawn = [alias.name for node in tree.body if isinstance(node, ast.ImportFrom) for alias in node.names]
            classes = [node.name for node in tree.body if isinstance(node, ast.ClassDef)]
            methods = [node for kind in tree.body if isinstance(kind, ast.ClassDef) for node in kind.body]
            for node, name in bound_names(tree):
                if name in TWO_UNDERSCORES and node in methods:
                    continue
                self.assertRegex(name, r"^[A-Za-z][A-Za-z0-9_]*$", where(path, node))
                self.assertFalse(keyword.iskeyword(name) or keyword.issoftkeyword(name), where(path, node))
                self.assertNotIn(name, NOWHERE_NAMED, where(path, node))
                self.assertNotIn(name, drawn, where(path, node))
                if node not in methods:
                    self.assertNotIn(name, dir(builtins), where(path, node))
                    self.assertFalse(name in classes and not isinstance(node, ast.ClassDef), where(path, node))

    def test_pythons_own_names(self):
        for path, node in nodes(ast.Name):
            if node.id in dir(builtins):
                self.assertIn(node.id, OWN_NAMES, where(path, node))

    def test_sets_stand_where_they_may(self):
        for path, tree in trees():
            allowed = []
            for outer in ast.walk(tree):
                if isinstance(outer, ast.Call) and getattr(outer.func, "id", "") in ("sorted", "len"):
                    allowed += [id(inner) for inner in outer.args]
            for node in ast.walk(tree):
                if isinstance(node, ast.Call) and getattr(node.func, "id", "") in ("set", "frozenset"):
                    self.assertIn(id(node), allowed, where(path, node))

    def test_walked_at_once(self):
        for path, tree in trees():
            walked = set()
            for node in ast.walk(tree):
                if isinstance(node, (ast.For, ast.comprehension)):
                    walked.add(id(node.iter))
                if isinstance(node, ast.Call) and getattr(node.func, "id", "") in (
                        "list", "tuple", "dict", "sorted", "sum", "any", "all", "enumerate", "zip", "min", "max"):
                    walked |= {id(inner) for inner in node.args[:1]}
            for node in ast.walk(tree):
                if isinstance(node, ast.Call):
                    name = getattr(node.func, "id", "") or getattr(node.func, "attr", "")
                    if name in WALKED + ("items", "keys", "values"):
                        self.assertIn(id(node), walked, where(path, node))

    def test_is_stands_beside_none_and_truths_alone(self):
        for path, node in nodes(ast.Compare):
            for op, other in zip(node.ops, node.comparators):
                if isinstance(op, (ast.Is, ast.IsNot)):
                    self.assertIn(getattr(other, "value", 0), (None, True, False), where(path, node))

    def test_methods_and_values(self):
        own, values = set(), set()
        for path, node in nodes(ast.ClassDef):
            self.assertLessEqual(len(node.bases), 1, where(path, node))
            self.assertEqual(node.decorator_list, [], where(path, node))
            for inner in node.body:
                self.assertIsInstance(inner, (ast.FunctionDef, ast.Pass), where(path, inner))
                if isinstance(inner, ast.FunctionDef):
                    own.add(inner.name)
        for path, node in nodes(ast.Attribute):
            if isinstance(node.ctx, ast.Store):
                values.add(node.attr)
        self.assertEqual(own & values, set())
        self.assertEqual((own | values) & OF_PYTHON - TWO_UNDERSCORES, set())
        for path, node in nodes(ast.Attribute):
            self.assertIn(node.attr, own | values | METHODS, where(path, node))

    def test_keywords_of_calls(self):
        told = {"sorted": {"key", "reverse"}, "min": {"key", "default"}, "max": {"key", "default"}, "sum": {"start"},
                "enumerate": {"start"}, "zip": {"strict"}}
        for path, node in nodes(ast.Call):
            for given in node.keywords:
                self.assertIn(given.arg, told.get(getattr(node.func, "id", ""), ()), where(path, node))

    def test_errors_are_raised_on_the_spot(self):
        for path, node in nodes(ast.Raise):
            self.assertIsInstance(node.exc, ast.Call, where(path, node))
