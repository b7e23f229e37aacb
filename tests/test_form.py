"""The form of the package's own files: the rules that can be seen in the text and in its syntax tree."""

import ast
import builtins
import pathlib
import re
import unittest

PACKAGE = pathlib.Path(__file__).resolve().parent.parent / "squaretrees"

STATEMENTS = (
    ast.Assign, ast.AugAssign, ast.If, ast.While, ast.For, ast.Return, ast.Break, ast.Continue, ast.Pass, ast.Raise,
    ast.Try, ast.Expr, ast.FunctionDef, ast.ClassDef, ast.ImportFrom,
)
EXPRESSIONS = (
    ast.Constant, ast.List, ast.Tuple, ast.Dict, ast.BinOp, ast.UnaryOp, ast.Compare, ast.BoolOp, ast.IfExp, ast.Call,
    ast.Attribute, ast.Subscript, ast.Slice, ast.ListComp, ast.Name, ast.Lambda, ast.Set, ast.JoinedStr,
    ast.FormattedValue,
)
TOP = (ast.Expr, ast.ImportFrom, ast.FunctionDef, ast.ClassDef, ast.Assign)
PLAIN = (ast.Constant, ast.List, ast.Tuple, ast.Dict, ast.UnaryOp, ast.USub, ast.Name, ast.Load)
PYTHONS_OWN = """
    len range enumerate zip min max sum abs sorted reversed int str bool list tuple dict set frozenset isinstance ord
    repr any all divmod Exception ValueError TypeError KeyError IndexError LookupError ZeroDivisionError
    ArithmeticError OverflowError RuntimeError NotImplementedError AttributeError StopIteration
""".split()
METHODS = """
    append clear copy count endswith extend find get index insert isalnum isalpha isdigit islower isspace isupper items
    join keys ljust lower lstrip partition pop remove replace reverse rfind rjust rpartition rsplit rstrip setdefault
    split splitlines startswith strip update upper values zfill bit_length
""".split()
NOT_NAMES = """
    register mro elements open input version_info with_traceback add_note attrgetter breakpoint builtins compile
    copyright credits delattr dir eval exec exit gc getattr globals hasattr help id importlib license locals
    methodcaller os quit setattr super type vars sys format format_map
""".split()
NOT_WORDS = re.compile(
    r"\b(type|typing|typing_extensions|enum|Enum|IntEnum|StrEnum|Flag|IntFlag|Generic|Protocol|ABC|ABCMeta|namedtuple|"
    r"NamedTuple|TypedDict|TYPE_CHECKING|abstractmethod)\b|dataclass|overload|contextmanager"
)
KEYWORDS = {
    "sorted": ("key", "reverse"), "min": ("key", "default"), "max": ("key", "default"), "sum": ("start",),
    "enumerate": ("start",), "zip": ("strict",),
}
WALKED = ("zip", "enumerate", "reversed", "range", "items", "keys", "values")
WALKERS = ("list", "tuple", "dict", "sorted", "sum", "any", "all", "enumerate", "zip", "min", "max", "join")
READERS = ("len", "list", "dict", "tuple", "sorted", "sum", "min", "max", "any", "all")
NAME = re.compile(r"[A-Za-z][A-Za-z0-9_]*")


def sources():
    return {path.name: path.read_text(encoding="utf-8") for path in sorted(PACKAGE.glob("*.py"))}


def nodes(kind):
    """All nodes of a kind in the package, each with a text that tells where it stands."""
    for name, text in sources().items():
        for node in ast.walk(ast.parse(text)):
            if isinstance(node, kind):
                yield node, f"{name}:{getattr(node, 'lineno', 0)}"


def nodes_within(kind):
    """All nodes of a kind, each with the node it stands in and a text that tells where."""
    for name, text in sources().items():
        for outer in ast.walk(ast.parse(text)):
            for node in ast.iter_child_nodes(outer):
                if isinstance(node, kind):
                    yield node, outer, f"{name}:{getattr(node, 'lineno', 0)}"


def called(node):
    """The name of what a node calls, or an empty text if it is no call."""
    if not isinstance(node, ast.Call):
        return ""
    return node.func.attr if isinstance(node.func, ast.Attribute) else getattr(node.func, "id", "")


def bound_names(tree):
    """Every name that a tree gives to something: defs, classes, parameters and what is assigned or walked."""
    for node in ast.walk(tree):
        if isinstance(node, (ast.FunctionDef, ast.ClassDef)):
            yield node.name
        elif isinstance(node, ast.arg):
            yield node.arg
        elif isinstance(node, ast.Name) and isinstance(node.ctx, ast.Store):
            yield node.id


def is_docstring(node):
    return isinstance(node, ast.Expr) and isinstance(node.value, ast.Constant) and isinstance(node.value.value, str)


class Files(unittest.TestCase):
    def test_names_and_kinds(self):
        found = [path.name for path in PACKAGE.iterdir() if path.name != "__pycache__"]
        self.assertIn("__init__.py", found)
        self.assertIn("net.py", found)
        for name in found:
            self.assertRegex(name, r"^(__init__|__main__|[a-z][a-z0-9_]*)\.py$")
            self.assertNotIn(name[:-3], vars(builtins), name)

    def test_size_and_signs(self):
        for name, text in sources().items():
            rows = text.split("\n")
            self.assertLessEqual(len(rows) - 1, 400, name)
            for number, row in enumerate(rows, start=1):
                self.assertRegex(row, r"^[ -~]{0,120}$", f"{name}:{number}")
                self.assertIsNone(NOT_WORDS.search(row), f"{name}:{number}")
        for node, where in nodes(ast.FunctionDef):
            self.assertLessEqual(node.end_lineno - node.lineno + 1, 40, where)


class Imports(unittest.TestCase):
    def test_only_from_the_package_and_in_no_circle(self):
        drawn = {name[:-3]: [] for name in sources()}
        for name, text in sources().items():
            for node in ast.walk(ast.parse(text)):
                if isinstance(node, ast.ImportFrom):
                    package, dot, module = node.module.partition(".")
                    self.assertEqual((package, node.level), ("squaretrees", 0), name)
                    self.assertIn(module, drawn, name)
                    self.assertEqual([alias.name for alias in node.names if alias.name == "*" or alias.asname], [])
                    drawn[name[:-3]].append(module)
        self.assertEqual(drawn["__init__"], [])
        while drawn:
            free = [name for name in drawn if not set(drawn[name]) & set(drawn)]
            self.assertTrue(free, f"files that draw from one another: {sorted(drawn)}")
            drawn = {name: drawn[name] for name in drawn if name not in free}


class Syntax(unittest.TestCase):
    def test_the_top_of_a_file(self):
        for name, text in sources().items():
            rows = ast.parse(text).body
            for node in rows:
                self.assertIsInstance(node, TOP, f"{name}:{node.lineno}")
                if isinstance(node, ast.Expr):
                    self.assertTrue(node is rows[0] and is_docstring(node), f"{name}:{node.lineno}")
                if isinstance(node, ast.Assign):
                    for part in ast.walk(node.value):
                        self.assertIsInstance(part, PLAIN, f"{name}:{node.lineno}")
            bound = [found for node in rows for found in bound_names(ast.Module([node], [])) if hasattr(node, "targets")]
            bound += [node.name for node in rows if isinstance(node, (ast.FunctionDef, ast.ClassDef))]
            self.assertEqual(len(bound), len(set(bound)), name)

    def test_statements(self):
        for node, where in nodes(ast.stmt):
            self.assertIsInstance(node, STATEMENTS, where)
            self.assertFalse(getattr(node, "decorator_list", []), where)
            if isinstance(node, ast.Assign):
                self.assertEqual(len(node.targets), 1, where)
                self.assertNotIsInstance(node.targets[0], (ast.Tuple, ast.List), where)
            if isinstance(node, (ast.For, ast.While)):
                self.assertEqual(node.orelse, [], where)
            if isinstance(node, ast.Expr):
                self.assertTrue(isinstance(node.value, ast.Call) or is_docstring(node), where)

    def test_expressions(self):
        for node, where in nodes(ast.expr):
            self.assertIsInstance(node, EXPRESSIONS, where)
            if isinstance(node, ast.Constant):
                self.assertNotIsInstance(node.value, (float, complex, bytes), where)
            if isinstance(node, ast.ListComp):
                self.assertEqual(len(node.generators), 1, where)
                self.assertLessEqual(len(node.generators[0].ifs), 1, where)
            if isinstance(node, ast.BinOp):
                self.assertNotIsInstance(node.op, (ast.Div, ast.MatMult), where)
        for node, where in nodes(ast.arguments):
            self.assertFalse(node.vararg or node.kwarg or node.kwonlyargs or node.posonlyargs, where)
            self.assertFalse([arg for arg in node.args if arg.annotation], where)


class Names(unittest.TestCase):
    def test_names_that_are_bound(self):
        for name, text in sources().items():
            tree = ast.parse(text)
            drawn = [alias.name for node in ast.walk(tree) if isinstance(node, ast.ImportFrom) for alias in node.names]
            for found in bound_names(tree):
                if found != "__init__":
                    self.assertTrue(NAME.fullmatch(found), f"{name}: {found}")
                    self.assertNotIn(found, vars(builtins), f"{name}: {found}")
                    self.assertNotIn(found, drawn, name)
                    self.assertNotIn(found, NOT_NAMES, name)

    def test_names_of_pythons_own(self):
        for node, where in nodes(ast.Name):
            self.assertNotIn(node.id, NOT_NAMES, where)
            if node.id in vars(builtins):
                self.assertIn(node.id, PYTHONS_OWN, where)

    def test_methods_and_values(self):
        own = [node.name for node, where in nodes(ast.FunctionDef)]
        for node, where in nodes(ast.Attribute):
            self.assertTrue(NAME.fullmatch(node.attr), where)
            self.assertNotIn(node.attr, NOT_NAMES, where)
        for node, where in nodes(ast.Call):
            if isinstance(node.func, ast.Attribute):
                self.assertIn(node.func.attr, METHODS + own, where)


class Uses(unittest.TestCase):
    def test_keywords(self):
        for node, where in nodes(ast.Call):
            for keyword in node.keywords:
                self.assertIn(keyword.arg, KEYWORDS.get(called(node), ()), where)

    def test_is_beside_none_true_and_false_alone(self):
        for node, where in nodes(ast.Compare):
            if any(isinstance(sign, (ast.Is, ast.IsNot)) for sign in node.ops):
                sides = [side.value for side in [node.left] + node.comparators if isinstance(side, ast.Constant)]
                self.assertTrue([side for side in sides if side is None or isinstance(side, bool)], where)

    def test_numbers_and_texts(self):
        for node, where in nodes(ast.BinOp):
            if isinstance(node.op, ast.Pow):
                self.assertIn(getattr(node.right, "value", None), range(65), where)
        for node, where in nodes(ast.Constant):
            if isinstance(node.value, str):
                self.assertNotIn("%", node.value, where)

    def test_walked_on_the_spot(self):
        for node, outer, where in nodes_within(ast.Call):
            if called(node) in WALKED:
                walked = isinstance(outer, (ast.For, ast.comprehension)) and outer.iter is node
                handed = called(outer) in WALKERS and outer.args[0] is node
                self.assertTrue(walked or handed, where)

    def test_sets_are_neither_kept_nor_walked(self):
        for node, outer, where in nodes_within((ast.Call, ast.Set, ast.BinOp)):
            parts = [called(part) for part in ast.iter_child_nodes(node)] if isinstance(node, ast.BinOp) else []
            if called(node) in ("set", "frozenset") or isinstance(node, ast.Set) or "set" in parts:
                sorted_or_counted = called(outer) in ("sorted", "len") and not outer.keywords
                self.assertTrue(sorted_or_counted or isinstance(outer, (ast.Compare, ast.BinOp)), where)

    def test_lists_and_dicts_of_a_files_top_are_only_read(self):
        kept = []
        for name, text in sources().items():
            for row in ast.parse(text).body:
                if isinstance(row, ast.Assign) and isinstance(row.value, (ast.List, ast.Dict)):
                    kept.append(row.targets[0].id)
                    within = [node for node in ast.walk(row.value) if isinstance(node, (ast.List, ast.Dict))]
                    self.assertEqual(len(within), 1, f"{name}:{row.lineno}")
        for node, outer, where in nodes_within(ast.Name):
            if node.id in kept and isinstance(node.ctx, ast.Load):
                indexed = isinstance(outer, ast.Subscript) and isinstance(outer.ctx, ast.Load)
                walked = isinstance(outer, (ast.For, ast.comprehension, ast.Compare)) or called(outer) in READERS
                got = isinstance(outer, ast.Attribute) and outer.attr in ("get", "items", "keys", "values", "copy")
                self.assertTrue(indexed or walked or got, where)

    def test_errors_are_taken_by_name(self):
        for node, where in nodes(ast.ExceptHandler):
            self.assertIsNotNone(node.type, where)
            named = [part.id for part in ast.walk(node.type) if isinstance(part, ast.Name)]
            self.assertFalse({"Exception", "TypeError"} & set(named), where)


class Objects(unittest.TestCase):
    def test_no_name_is_a_method_and_a_value(self):
        methods = [
            part.name for node, where in nodes(ast.ClassDef) for part in node.body if isinstance(part, ast.FunctionDef)
        ]
        given = [node.attr for node, where in nodes(ast.Attribute) if isinstance(node.ctx, ast.Store)]
        self.assertEqual(set(methods) & set(given), set())
        taken = [name for own in (str, int, list, dict, set, bytes, range, slice) for name in dir(own)]
        self.assertEqual(set(given) & set(taken), set())


if __name__ == "__main__":
    unittest.main()
