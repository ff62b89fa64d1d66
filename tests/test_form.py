"""The form of the package's own files: the rules of the language part that can be read off."""

import ast
import builtins
import re
import unittest
from pathlib import Path

PACKAGE = Path(__file__).resolve().parent.parent / "meadshares"
FILES = sorted(PACKAGE.rglob("*.py"))

STATEMENTS = (
    ast.FunctionDef, ast.ClassDef, ast.ImportFrom, ast.Assign, ast.AugAssign, ast.If, ast.While, ast.For, ast.Return,
    ast.Break, ast.Continue, ast.Pass, ast.Raise, ast.Try, ast.Expr, ast.Assert, ast.Delete,
)
EXPRESSIONS = (
    ast.Constant, ast.Name, ast.Attribute, ast.Subscript, ast.Slice, ast.Call, ast.BinOp, ast.UnaryOp, ast.BoolOp,
    ast.Compare, ast.IfExp, ast.List, ast.Tuple, ast.Dict, ast.Set, ast.ListComp, ast.DictComp, ast.SetComp,
    ast.JoinedStr, ast.FormattedValue, ast.Lambda, ast.Starred,
)
PYTHONS_OWN = set("""
    len range enumerate zip min max sum abs sorted reversed int str bool bytes list tuple dict set isinstance ord repr
    any all divmod ValueError KeyError IndexError LookupError ZeroDivisionError StopIteration
""".split())
METHODS = set("""
    append clear copy count endswith extend find get index insert isalnum isalpha isdigit islower isspace isupper items
    join keys ljust lower lstrip partition pop remove replace reverse rfind rjust rpartition rsplit rstrip setdefault
    split splitlines startswith strip update upper values zfill bit_length sort add discard
""".split())
TWO_UNDERSCORES = ("__init__", "__eq__", "__repr__", "__str__", "__len__")
WORDS = re.compile(
    r"\b(type|typing|typing_extensions|enum|Enum|IntEnum|StrEnum|Flag|IntFlag|Generic|Protocol|ABC|ABCMeta|namedtuple"
    r"|NamedTuple|TypedDict|TYPE_CHECKING|abstractmethod)\b|dataclass|overload|contextmanager"
)


def faults_of_text(text):
    lines = text.split("\n")
    faults = [f"row {at}: over 120 signs" for at, line in enumerate(lines, 1) if len(line) > 120]
    faults += [f"row {at}: a word that stands nowhere" for at, line in enumerate(lines, 1) if WORDS.search(line)]
    faults += [f"sign {sign!r}" for sign in sorted(set(text)) if sign != "\n" and not " " <= sign <= "~"]
    return faults + (["over 400 rows"] if len(lines) > 401 else [])


def is_top_row(row):
    if isinstance(row, ast.Expr):
        return isinstance(row.value, ast.Constant) and isinstance(row.value.value, str)
    return isinstance(row, (ast.ImportFrom, ast.FunctionDef, ast.ClassDef, ast.Assign))


def names_bound_at_top(tree):
    names = []
    for row in tree.body:
        if isinstance(row, ast.ImportFrom):
            names += [drawn.asname or drawn.name for drawn in row.names]
        elif isinstance(row, (ast.FunctionDef, ast.ClassDef)):
            names.append(row.name)
        elif isinstance(row, ast.Assign):
            names += [name.id for name in ast.walk(row) if isinstance(name, ast.Name)
                      and isinstance(name.ctx, ast.Store)]
    return names


def names_drawn_or_classes(tree):
    drawn = [name.asname or name.name for row in tree.body if isinstance(row, ast.ImportFrom) for name in row.names]
    return set(drawn + [row.name for row in tree.body if isinstance(row, ast.ClassDef)])


def names_within_defs(tree):
    """The parameters and locals of all defs."""
    names = set()
    for row in ast.walk(tree):
        if isinstance(row, (ast.FunctionDef, ast.Lambda)):
            for node in ast.walk(row):
                if isinstance(node, ast.arg):
                    names.add(node.arg)
                elif isinstance(node, ast.Name) and isinstance(node.ctx, ast.Store):
                    names.add(node.id)
    return names


def fault_of_def(node):
    handed = node.args
    if handed.vararg or handed.kwarg or handed.posonlyargs:
        return "parameters that aren't plain"
    if node.decorator_list:
        return "a decorator"
    if node.end_lineno - node.lineno + 1 > 40:
        return "over 40 rows"
    if node.name.startswith("_") and node.name not in TWO_UNDERSCORES:
        return "a name with an underscore ahead"
    return None


def fault_of_name(node):
    plain = re.fullmatch("[A-Za-z][A-Za-z0-9_]*", node.id)
    if not plain or isinstance(node.ctx, ast.Store) and node.id in dir(builtins):
        return f"the name {node.id}"
    if node.id in dir(builtins) and node.id not in PYTHONS_OWN:
        return f"Python's own {node.id}"
    return None


def fault_of(node, methods):
    """What is wrong with one row or expression, None where nothing is."""
    if isinstance(node, ast.stmt) and not isinstance(node, STATEMENTS):
        return "a row of another form"
    if isinstance(node, ast.expr) and not isinstance(node, EXPRESSIONS):
        return "an expression of another form"
    if isinstance(node, ast.FunctionDef):
        return fault_of_def(node)
    if isinstance(node, ast.ClassDef):
        rows = [row for row in node.body if not isinstance(row, (ast.FunctionDef, ast.Expr))]
        return "a class of another form" if rows or node.decorator_list or len(node.bases) > 1 else None
    if isinstance(node, ast.ImportFrom):
        plain = node.level == 0 and (node.module or "").startswith("meadshares.")
        return None if plain and all(drawn.name != "*" for drawn in node.names) else "an import of another form"
    if isinstance(node, (ast.For, ast.While)) and node.orelse:
        return "an else behind a loop"
    if isinstance(node, ast.Name):
        return fault_of_name(node)
    if isinstance(node, ast.arg) and (node.arg in dir(builtins) or node.arg.startswith("_")):
        return f"the parameter {node.arg}"
    if isinstance(node, ast.Raise) and node.exc and not isinstance(node.exc, ast.Call):
        return "an error that isn't made on the spot"
    if isinstance(node, ast.Div):
        return "the sign /"
    if isinstance(node, ast.Constant) and isinstance(node.value, (float, complex)):
        return "a number with a point"
    if isinstance(node, ast.Constant) and isinstance(node.value, str) and "%" in node.value:
        return "the percent sign within a text"
    if isinstance(node, ast.Compare) and any(isinstance(sign, (ast.Is, ast.IsNot)) for sign in node.ops):
        beside = node.comparators[-1]
        if not isinstance(beside, ast.Constant) or beside.value not in (None, True, False):
            return "is beside another thing"
    if isinstance(node, ast.Call) and isinstance(node.func, ast.Attribute) and node.func.attr not in methods:
        return f"the method {node.func.attr}"
    return None


class Form(unittest.TestCase):
    def test_nothing_else_lies_in_the_package(self):
        self.assertTrue((PACKAGE / "__init__.py").is_file())
        for path in PACKAGE.rglob("*"):
            if "__pycache__" not in path.parts:
                self.assertRegex(path.name, r"\A([a-z][a-z0-9_]*|__init__|__main__)\.py\Z")

    def test_signs_and_words(self):
        for path in FILES:
            self.assertEqual(faults_of_text(path.read_text(encoding="utf-8")), [], path.name)

    def test_the_top_of_each_file(self):
        for path in FILES:
            tree = ast.parse(path.read_text(encoding="utf-8"))
            self.assertEqual([row.lineno for row in tree.body if not is_top_row(row)], [], path.name)
            names = names_bound_at_top(tree)
            self.assertEqual(sorted(names), sorted(set(names)), path.name)

    def test_rows_and_expressions(self):
        trees = {path.name: ast.parse(path.read_text(encoding="utf-8")) for path in FILES}
        own = {node.name for tree in trees.values() for node in ast.walk(tree) if isinstance(node, ast.FunctionDef)}
        for name, tree in trees.items():
            faults = [(getattr(node, "lineno", 0), fault_of(node, METHODS | own)) for node in ast.walk(tree)]
            self.assertEqual([fault for fault in faults if fault[1]], [], name)

    def test_values_of_objects(self):
        nodes = [node for path in FILES for node in ast.walk(ast.parse(path.read_text(encoding="utf-8")))]
        methods = {row.name for node in nodes if isinstance(node, ast.ClassDef) for row in node.body
                   if isinstance(row, ast.FunctionDef)}
        values = [node for node in nodes if isinstance(node, ast.Attribute)]
        given = {node.attr for node in values if isinstance(node.ctx, ast.Store)}
        called = {id(node.func) for node in nodes if isinstance(node, ast.Call)}
        asked = {node.attr for node in values if isinstance(node.ctx, ast.Load) and id(node) not in called}
        own_to_python = {name for kind in (str, int, list, dict, set, bytes, tuple) for name in dir(kind)}
        self.assertEqual(given & methods, set())
        self.assertEqual(asked - given, set())
        self.assertEqual((given | methods) & own_to_python, {"__init__"})

    def test_lists_and_dicts_of_the_top_hold_no_others(self):
        for path in FILES:
            for row in ast.parse(path.read_text(encoding="utf-8")).body:
                if isinstance(row, ast.Assign):
                    kept = [node for node in ast.walk(row.value) if isinstance(node, (ast.List, ast.Dict, ast.Set))]
                    self.assertLessEqual(len(kept), 1, (path.name, row.lineno))

    def test_no_local_is_called_like_an_import_or_a_class(self):
        for path in FILES:
            tree = ast.parse(path.read_text(encoding="utf-8"))
            self.assertEqual(names_within_defs(tree) & names_drawn_or_classes(tree), set(), path.name)

    def test_each_import_is_from_the_file_that_defines_the_name(self):
        drawn_from = {}
        for path in FILES:
            tree = ast.parse(path.read_text(encoding="utf-8"))
            rows = [row for row in tree.body if isinstance(row, ast.ImportFrom)]
            drawn_from[path.stem] = {row.module.split(".")[1] for row in rows}
            for row in rows:
                there = ast.parse((PACKAGE / (row.module.split(".")[1] + ".py")).read_text(encoding="utf-8"))
                own = set(names_bound_at_top(there)) - names_drawn_or_classes(there)
                own |= {node.name for node in there.body if isinstance(node, ast.ClassDef)}
                self.assertEqual([name.name for name in row.names if name.name not in own], [], path.name)
        # Files that draw from no file that is left are taken away, till none is left.
        while drawn_from:
            free = [name for name in drawn_from if not drawn_from[name] & set(drawn_from)]
            self.assertNotEqual(free, [], f"in a ring: {sorted(drawn_from)}")
            drawn_from = {name: drawn for name, drawn in drawn_from.items() if name not in free}

    def test_each_import_is_used(self):
        for path in FILES:
            tree = ast.parse(path.read_text(encoding="utf-8"))
            used = {node.id for node in ast.walk(tree) if isinstance(node, ast.Name)}
            drawn = [name.name for row in tree.body if isinstance(row, ast.ImportFrom) for name in row.names]
            self.assertEqual([name for name in drawn if name not in used], [], path.name)

    def test_faults_are_seen(self):
        for text in (
            "import os", "from meadshares import *", "from .errors import NoMead", "x: int = 5", "with a: pass",
            "def f(*a): pass", "def f(**a): pass", "x = 1 / 2", "x = 1.5", "x = (k for k in y)", "x = y is z",
            "x = eval(y)", "def f(list): pass", "y.format(3)", "raise x", "for k in y:\n    pass\nelse:\n    pass",
            "class A:\n    x = 1", "@a\ndef f(): pass", "def f():\n    yield 1", "x = y = (z := 3)", "_x = 1",
            "x = 'a%'",
        ):
            self.assertTrue([node for node in ast.walk(ast.parse(text)) if fault_of(node, METHODS)], text)
        self.assertTrue(faults_of_text("# a " + "ty" + "pe"))
        self.assertTrue(faults_of_text("x" * 121))
        self.assertTrue(faults_of_text("\t"))


if __name__ == "__main__":
    unittest.main()
