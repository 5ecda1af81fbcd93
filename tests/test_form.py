"""The form in which the package is written: the rules of LANGUAGE.md that can be seen in its files."""

import ast
import builtins
import re
import unittest
from pathlib import Path

PACKAGE = Path(__file__).resolve().parent.parent / "quarterdesk"
FILES = sorted(PACKAGE.glob("*.py"))

STATEMENTS = (ast.Assign, ast.If, ast.While, ast.For, ast.Return, ast.Break, ast.Continue, ast.Pass, ast.FunctionDef)
EXPRESSIONS = (
    ast.Constant, ast.Name, ast.List, ast.Tuple, ast.Dict, ast.BinOp, ast.UnaryOp, ast.Compare, ast.BoolOp, ast.IfExp,
    ast.Call, ast.Attribute, ast.Subscript, ast.Slice, ast.ListComp, ast.Lambda,
)
OWN_NAMES = (
    "len range enumerate zip min max sum abs sorted reversed int str bool list tuple dict set frozenset isinstance "
    "ord repr any all divmod"
).split()
METHODS = (
    "append clear copy count endswith extend find get index insert items join keys partition pop remove replace "
    "reverse rfind setdefault split startswith strip update values"
).split()
FORBIDDEN_NAMES = (
    "register mro elements open input version_info with_traceback add_note attrgetter breakpoint builtins compile "
    "copyright credits delattr dir eval exec exit gc getattr globals hasattr help id importlib license locals "
    "methodcaller os quit setattr super type vars sys chr print"
).split()
FORBIDDEN_WORDS = (
    "type typing typing_extensions enum Enum IntEnum StrEnum Flag IntFlag Generic Protocol ABC ABCMeta namedtuple "
    "NamedTuple TypedDict TYPE_CHECKING abstractmethod"
).split()


def tree_of(path):
    return ast.parse(path.read_text(encoding="ascii"))


def names_bound(tree):
    found = []
    for node in ast.walk(tree):
        if isinstance(node, ast.Name) and isinstance(node.ctx, ast.Store):
            found.append(node.id)
        elif isinstance(node, ast.arg):
            found.append(node.arg)
    return found


class Form(unittest.TestCase):
    def test_files(self):
        self.assertIn("house.py", [path.name for path in FILES])
        for path in PACKAGE.iterdir():
            if path.name != "__pycache__":
                self.assertRegex(path.name, r"^[a-z_][a-z0-9_]*\.py$")
                self.assertNotIn(path.stem, dir(builtins))

    def test_signs_and_sizes(self):
        for path in FILES:
            with self.subTest(file=path.name):
                tree = tree_of(path)
                text = path.read_text(encoding="utf-8")
                self.assertRegex(text, r"\A[ -~\n]*\Z")
                lines = text.splitlines()
                self.assertLessEqual(len(lines), 400)
                self.assertLessEqual(max(len(line) for line in lines), 120)
                for node in ast.walk(tree):
                    if isinstance(node, ast.FunctionDef):
                        self.assertLessEqual(node.end_lineno - node.lineno + 1, 40, node.name)

    def test_words(self):
        for path in FILES:
            with self.subTest(file=path.name):
                tree = tree_of(path)
                words = re.findall(r"[A-Za-z_][A-Za-z0-9_]*", path.read_text())
                for word in words:
                    self.assertNotIn(word, FORBIDDEN_WORDS)
                    self.assertNotRegex(word, "dataclass|overload|contextmanager")

    def test_tops(self):
        for path in FILES:
            with self.subTest(file=path.name):
                tree = tree_of(path)
                self.assertIsNotNone(ast.get_docstring(tree))
                bound = []
                functions = []
                for node in tree.body[1:]:
                    self.assertIsInstance(node, (ast.ImportFrom, ast.FunctionDef, ast.ClassDef, ast.Assign))
                    if isinstance(node, ast.ImportFrom):
                        self.assertEqual(node.level, 0)
                        self.assertRegex(node.module, r"^quarterdesk\.[a-z]+$")
                        bound += [alias.asname or alias.name for alias in node.names]
                    elif isinstance(node, ast.Assign):
                        bound.append(node.targets[0].id)
                        self.check_plain_value(node.value, functions)
                    else:
                        bound.append(node.name)
                        functions.append(node.name)
                self.assertEqual(len(bound), len(set(bound)))

    def check_plain_value(self, value, functions, inside=False):
        if isinstance(value, (ast.Tuple, ast.Dict)):
            self.assertFalse(inside and isinstance(value, ast.Dict))
            parts = value.elts if isinstance(value, ast.Tuple) else value.keys + value.values
            for part in parts:
                self.check_plain_value(part, functions, True)
        elif isinstance(value, ast.Name):
            self.assertIn(value.id, functions)
        elif isinstance(value, ast.UnaryOp):
            self.assertIsInstance(value.operand, ast.Constant)
        else:
            self.assertIsInstance(value, ast.Constant)

    def test_imports_go_one_way_and_to_where_a_name_is_defined(self):
        draws = {}
        for path in FILES:
            with self.subTest(file=path.name):
                tree = tree_of(path)
                rows = [node for node in tree.body if isinstance(node, ast.ImportFrom)]
                draws[path.stem] = {row.module.split(".")[1] for row in rows}
                for row in rows:
                    source = tree_of(PACKAGE / (row.module.split(".")[1] + ".py"))
                    defined = [node.name for node in source.body if isinstance(node, (ast.FunctionDef, ast.ClassDef))]
                    defined += [node.targets[0].id for node in source.body if isinstance(node, ast.Assign)]
                    for alias in row.names:
                        self.assertIn(alias.name, defined)
        while draws:
            free = [name for name, needed in draws.items() if not needed & set(draws)]
            self.assertTrue(free, draws)
            draws = {name: needed for name, needed in draws.items() if name not in free}

    def test_statements_and_expressions(self):
        for path in FILES:
            with self.subTest(file=path.name):
                tree = tree_of(path)
                for node in ast.walk(tree):
                    if isinstance(node, ast.Expr):
                        docstring = node is tree.body[0]
                        self.assertTrue(docstring or isinstance(node.value, ast.Call), node.lineno)
                    elif isinstance(node, ast.stmt) and not isinstance(node, (ast.ImportFrom, ast.ClassDef)):
                        self.assertIsInstance(node, STATEMENTS)
                    elif isinstance(node, ast.expr):
                        self.assertIsInstance(node, EXPRESSIONS)
                    if isinstance(node, ast.Assign):
                        self.assertEqual(len(node.targets), 1)
                        self.assertNotIsInstance(node.targets[0], (ast.Tuple, ast.List))
                    if isinstance(node, (ast.For, ast.While)):
                        self.assertEqual(node.orelse, [])
                    if isinstance(node, ast.BinOp):
                        self.assertNotIsInstance(node.op, (ast.Div, ast.Pow, ast.MatMult))
                    if isinstance(node, ast.Constant):
                        self.assertIsInstance(node.value, (int, str, type(None)))
                    if isinstance(node, ast.ListComp):
                        self.assertEqual(len(node.generators), 1)
                        self.assertLessEqual(len(node.generators[0].ifs), 1)
                    if isinstance(node, ast.Compare):
                        self.assertFalse(any(isinstance(op, (ast.Is, ast.IsNot)) for op in node.ops))

    def test_functions_and_classes(self):
        for path in FILES:
            with self.subTest(file=path.name):
                tree = tree_of(path)
                for node in ast.walk(tree):
                    if isinstance(node, ast.FunctionDef):
                        self.assertEqual(node.decorator_list, [])
                        self.assertIsNone(node.args.vararg)
                        self.assertIsNone(node.args.kwarg)
                        self.assertEqual(node.args.kwonlyargs, [])
                        self.assertIsNone(node.returns)
                    if isinstance(node, ast.ClassDef):
                        self.assertEqual([part.name for part in node.body], ["__init__"])
                        self.assertEqual(node.bases, [])

    def test_names(self):
        for path in FILES:
            with self.subTest(file=path.name):
                tree = tree_of(path)
                tops = [node.name for node in tree.body if isinstance(node, (ast.FunctionDef, ast.ClassDef))]
                for node in tree.body:
                    if isinstance(node, ast.ImportFrom):
                        tops += [alias.name for alias in node.names]
                known = tops + names_bound(tree) + OWN_NAMES
                for name in names_bound(tree):
                    self.assertNotIn(name, dir(builtins))
                    self.assertNotIn(name, tops)
                    self.assertFalse(name.startswith("_"))
                for node in ast.walk(tree):
                    if isinstance(node, ast.Name):
                        self.assertIn(node.id, known)
                        self.assertNotIn(node.id, FORBIDDEN_NAMES)
                    if isinstance(node, ast.Attribute):
                        self.assertNotIn(node.attr, ("register", "mro", "elements", "open", "input", "format"))

    def test_methods_are_pythons_own_and_few(self):
        values = set()
        for path in FILES:
            with self.subTest(file=path.name):
                tree = tree_of(path)
                for node in ast.walk(tree):
                    if isinstance(node, ast.Call) and isinstance(node.func, ast.Attribute):
                        self.assertIn(node.func.attr, METHODS)
                    if isinstance(node, ast.Attribute) and isinstance(node.ctx, ast.Store):
                        values.add(node.attr)
        for kind in (str, int, list, dict, set, tuple, bytes):
            self.assertEqual(values & set(dir(kind)), set())


if __name__ == "__main__":
    unittest.main()
