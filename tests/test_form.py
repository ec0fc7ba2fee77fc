"""The package keeps to a small part of Python; what of it is easily seen is looked at here."""

import ast
import builtins
import pathlib
import re
import unittest

PACKAGE = pathlib.Path(__file__).resolve().parent.parent / "rimehold"
FILES = sorted(PACKAGE.rglob("*.py"))

OWN_NAMES = set("""len range enumerate zip min max sum abs sorted reversed int str bool bytes list tuple dict set frozenset
    isinstance ord repr any all divmod Exception ValueError TypeError KeyError IndexError LookupError ZeroDivisionError
    ArithmeticError OverflowError RuntimeError NotImplementedError AttributeError StopIteration""".split())
METHODS = set("""append clear copy count endswith extend find get index insert isalnum isalpha isdigit islower isspace
    isupper items join keys ljust lower lstrip partition pop remove replace reverse rfind rjust rpartition rsplit rstrip
    setdefault sort split splitlines startswith strip update upper values zfill bit_length add discard""".split())
WORDS = """type typing typing_extensions enum Enum IntEnum StrEnum Flag IntFlag Generic Protocol ABC ABCMeta namedtuple
    NamedTuple TypedDict TYPE_CHECKING abstractmethod""".split()
WALKED = ("zip", "enumerate", "reversed", "range", "items", "keys", "values")
PARTS_OF_WORDS = ("dataclass", "overload", "contextmanager")
NODES = (ast.With, ast.Match, ast.Global, ast.Nonlocal, ast.Yield, ast.YieldFrom, ast.AsyncFunctionDef, ast.Await,
         ast.GeneratorExp, ast.NamedExpr, ast.Div, ast.Import, ast.AnnAssign)


class Form(unittest.TestCase):
    def each(self):
        for path in FILES:
            with self.subTest(path.name):
                text = path.read_text(encoding="utf-8")
                yield path, text, ast.parse(text)

    def test_files(self):
        for path in PACKAGE.rglob("*"):
            if path.name != "__pycache__" and path.parent.name != "__pycache__":
                self.assertRegex(path.name, r"^[a-z0-9_]+\.py$")

    def test_size_and_signs(self):
        for path, text, tree in self.each():
            rows = text.splitlines()
            self.assertLessEqual(len(rows), 400)
            self.assertLessEqual(max(map(len, rows)), 120)
            self.assertRegex(text, r"^[ -~\n]*$")
            self.assertNotIn("%", "".join(node.value for node in ast.walk(tree)
                                          if isinstance(node, ast.Constant) and isinstance(node.value, str)))
            for node in ast.walk(tree):
                if isinstance(node, ast.FunctionDef):
                    self.assertLessEqual(node.end_lineno - node.lineno + 1, 40, node.name)

    def test_words(self):
        for path, text, tree in self.each():
            for word in WORDS:
                self.assertIsNone(re.search(rf"\b{word}\b", text), word)
            for part in PARTS_OF_WORDS:
                self.assertNotIn(part, text)

    def test_imports(self):
        for path, text, tree in self.each():
            for node in ast.walk(tree):
                if isinstance(node, ast.ImportFrom):
                    self.assertTrue(node.module.startswith("rimehold.") and node.level == 0, node.module)
                    self.assertIn(node, tree.body)
                    defined = ast.parse((PACKAGE / (node.module.split(".")[1] + ".py")).read_text())
                    names = {row.name for row in defined.body if isinstance(row, (ast.FunctionDef, ast.ClassDef))}
                    names |= {row.targets[0].id for row in defined.body if isinstance(row, ast.Assign)}
                    self.assertLessEqual({alias.name for alias in node.names}, names)

    def test_nodes(self):
        for path, text, tree in self.each():
            for node in ast.walk(tree):
                self.assertNotIsInstance(node, NODES, getattr(node, "lineno", None))
                self.assertFalse(getattr(node, "decorator_list", []))
                if isinstance(node, ast.Constant):
                    self.assertNotIsInstance(node.value, (float, complex))
                if isinstance(node, (ast.For, ast.While)):
                    self.assertEqual(node.orelse, [])

    def test_names(self):
        for path, text, tree in self.each():
            drawn = {alias.name for node in tree.body if isinstance(node, ast.ImportFrom) for alias in node.names}
            for node in ast.walk(tree):
                if isinstance(node, ast.Name):
                    self.assertFalse(node.id.startswith("_"), node.id)
                    if isinstance(node.ctx, ast.Store):
                        self.assertNotIn(node.id, drawn)
                        self.assertFalse(hasattr(builtins, node.id), node.id)
                    elif hasattr(builtins, node.id):
                        self.assertIn(node.id, OWN_NAMES)
                if isinstance(node, ast.arg):
                    self.assertFalse(hasattr(builtins, node.arg) or node.arg in drawn, node.arg)
                if isinstance(node, ast.Call) and isinstance(node.func, ast.Attribute):
                    self.assertTrue(node.func.attr in METHODS or not hasattr(str, node.func.attr), node.func.attr)
                if isinstance(node, ast.Compare):
                    for sign, right in zip(node.ops, node.comparators):
                        if isinstance(sign, (ast.Is, ast.IsNot)):
                            self.assertIsInstance(right, ast.Constant)

    def test_what_is_walked_is_not_kept(self):
        for path, text, tree in self.each():
            for node in ast.walk(tree):
                if isinstance(node, (ast.Assign, ast.Return)) and isinstance(node.value, ast.Call):
                    called = node.value.func
                    self.assertNotIn(getattr(called, "id", getattr(called, "attr", None)), WALKED, node.lineno)

    def test_sets_stand_where_they_may(self):
        for path, text, tree in self.each():
            allowed = []
            for node in ast.walk(tree):
                if isinstance(node, ast.Call) and getattr(node.func, "id", None) in ("len", "sorted"):
                    allowed.extend(node.args)
            for node in ast.walk(tree):
                called = isinstance(node, ast.Call) and getattr(node.func, "id", None) in ("set", "frozenset")
                if called or isinstance(node, (ast.Set, ast.SetComp)):
                    self.assertIn(node, allowed, node.lineno)

    def test_no_name_is_a_method_and_a_value(self):
        methods, values = set(), set()
        for path, text, tree in self.each():
            for node in ast.walk(tree):
                if isinstance(node, ast.ClassDef):
                    methods |= {row.name for row in node.body if isinstance(row, ast.FunctionDef)}
                if isinstance(node, ast.Attribute) and isinstance(node.ctx, ast.Store):
                    values.add(node.attr)
        self.assertTrue(methods and values)
        self.assertEqual(methods & values, set())
        for name in methods - {"__init__"} | values:
            self.assertFalse(any(hasattr(kind, name) for kind in (str, int, list, dict, set, bytes)), name)

    def test_no_two_files_draw_from_one_another(self):
        drawn = {}
        for path, text, tree in self.each():
            drawn[path.stem] = {node.module.split(".")[1] for node in tree.body if isinstance(node, ast.ImportFrom)}
        self.assertEqual(drawn["__init__"], set())
        while drawn:
            free = [name for name in drawn if not drawn[name] & set(drawn)]
            self.assertTrue(free, drawn)
            for name in free:
                del drawn[name]
