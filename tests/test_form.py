"""The form of the package's own files."""

import ast
import builtins
import pathlib
import re
import unittest

PACKAGE = pathlib.Path(__file__).resolve().parent.parent / "boxmoves"
FILES = sorted(path for path in PACKAGE.rglob("*") if path.is_file() and "__pycache__" not in path.parts)
NAMES_OF_PYTHON = set(
    "len range enumerate zip min max sum abs sorted reversed int str bool bytes list tuple dict set frozenset "
    "isinstance ord repr any all divmod Exception ValueError TypeError KeyError IndexError LookupError "
    "ZeroDivisionError ArithmeticError OverflowError RuntimeError NotImplementedError AttributeError "
    "StopIteration".split()
)
BARRED_NODES = (
    ast.With, ast.Match, ast.Global, ast.Nonlocal, ast.Yield, ast.YieldFrom, ast.Await, ast.AsyncFunctionDef,
    ast.GeneratorExp, ast.NamedExpr, ast.Import, ast.Div, ast.AnnAssign,
)
BARRED_WORDS = re.compile(
    r"\b(type|typing|typing_extensions|enum|Enum|IntEnum|StrEnum|Flag|IntFlag|Generic|Protocol|ABC|ABCMeta|namedtuple"
    r"|NamedTuple|TypedDict|TYPE_CHECKING|abstractmethod)\b|dataclass|overload|contextmanager"
)


def nodes_of(path):
    return list(ast.walk(ast.parse(path.read_text(encoding="utf-8"))))


def bound_names(tree_nodes):
    for node in tree_nodes:
        if isinstance(node, (ast.FunctionDef, ast.ClassDef)):
            yield node.name
        elif isinstance(node, ast.arg):
            yield node.arg
        elif isinstance(node, ast.Name) and isinstance(node.ctx, ast.Store):
            yield node.id
        elif isinstance(node, ast.alias):
            yield node.asname or node.name


class FormTest(unittest.TestCase):
    def test_only_plain_files(self):
        self.assertIn(PACKAGE / "__init__.py", FILES)
        for path in FILES:
            self.assertRegex(path.name, r"^(__init__|__main__|[a-z][a-z0-9_]*)\.py$")

    def test_signs_lines_and_words(self):
        for path in FILES:
            text = path.read_text(encoding="utf-8")
            with self.subTest(file=path.name):
                self.assertEqual(re.findall(r"[^\n -~]", text), [])
                self.assertLessEqual(len(text.splitlines()), 400)
                self.assertLessEqual(max(len(line) for line in text.splitlines()), 120)
                self.assertIsNone(BARRED_WORDS.search(text))

    def test_functions_are_short(self):
        for path in FILES:
            for node in nodes_of(path):
                if isinstance(node, ast.FunctionDef):
                    with self.subTest(file=path.name, function=node.name):
                        self.assertLessEqual(node.end_lineno - node.lineno + 1, 40)
                        self.assertEqual(node.decorator_list, [])

    def test_no_barred_node(self):
        for path in FILES:
            for node in nodes_of(path):
                with self.subTest(file=path.name, line=getattr(node, "lineno", 0)):
                    self.assertNotIsInstance(node, BARRED_NODES)
                    if isinstance(node, ast.Constant):
                        self.assertNotIsInstance(node.value, (float, complex))
                    if isinstance(node, ast.BinOp) and isinstance(node.op, ast.Pow):
                        self.assertIsInstance(node.right, ast.Constant)

    def test_imports_are_the_packages_own(self):
        for path in FILES:
            for node in nodes_of(path):
                if isinstance(node, ast.ImportFrom):
                    with self.subTest(file=path.name, line=node.lineno):
                        self.assertTrue(node.module.startswith("boxmoves."))
                        self.assertEqual(node.level, 0)

    def test_names(self):
        for path in FILES:
            nodes = nodes_of(path)
            bound = set(bound_names(nodes))
            for name in bound:
                with self.subTest(file=path.name, name=name):
                    self.assertRegex(name, r"^([A-Za-z][A-Za-z0-9_]*|__(init|eq|repr|str|len)__)$")
                    self.assertNotIn(name, dir(builtins))
            for node in nodes:
                if isinstance(node, ast.Name) and isinstance(node.ctx, ast.Load):
                    with self.subTest(file=path.name, line=node.lineno):
                        self.assertTrue(node.id in bound or node.id in NAMES_OF_PYTHON, node.id)


if __name__ == "__main__":
    unittest.main()
