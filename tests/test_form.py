"""The form of the package's own files."""

import ast
import builtins
import pathlib
import re
import unittest

PACKAGE = pathlib.Path(__file__).resolve().parent.parent / "boxmoves"
FILES = sorted(path for path in PACKAGE.rglob("*") if path.is_file() and "__pycache__" not in path.parts)
NAMES_OF_PYTHON = set(
    "len range enumerate zip min max sum abs sorted reversed int str bool bytes list tuple dict set frozenset "
    "isinstance ord repr any all divmod Exception ValueError TypeError KeyError IndexError LookupError "
    "ZeroDivisionError ArithmeticError OverflowError RuntimeError NotImplementedError AttributeError "
    "StopIteration".split()
)
BARRED_NODES = (
    ast.With, ast.Match, ast.Global, ast.Nonlocal, ast.Yield, ast.YieldFrom, ast.Await, ast.AsyncFunctionDef,
    ast.GeneratorExp, ast.NamedExpr, ast.Import, ast.Div, ast.AnnAssign,
)
METHODS_OF_PYTHON = set(
    "append clear copy count endswith extend find get index insert isalnum isalpha isdigit islower isspace isupper "
    "items join keys ljust lower lstrip partition pop remove replace reverse rfind rjust rpartition rsplit rstrip "
    "setdefault split splitlines startswith strip update upper values zfill bit_length removeprefix removesuffix".split()
)
BARRED_WORDS = re.compile(
    r"\b(type|typing|typing_extensions|enum|Enum|IntEnum|StrEnum|Flag|IntFlag|Generic|Protocol|ABC|ABCMeta|namedtuple"
    r"|NamedTuple|TypedDict|TYPE_CHECKING|abstractmethod)\b|dataclass|overload|contextmanager"
)


def nodes_of(path):
    return list(ast.walk(ast.parse(path.read_text(encoding="utf-8"))))


def bound_names(tree_nodes):
    for node in tree_nodes:
        if isinstance(node, (ast.FunctionDef, ast.ClassDef)):
            yield node.name
        elif isinstance(node, ast.arg):
            yield node.arg
        elif isinstance(node, ast.Name) and isinstance(node.ctx, ast.Store):
            yield node.id
        elif isinstance(node, ast.alias):
            yield node.asname or node.name


class FormTest(unittest.TestCase):
    def test_only_plain_files(self):
        self.assertIn(PACKAGE / "__init__.py", FILES)
        for path in FILES:
            self.assertRegex(path.name, r"^(__init__|__main__|[a-z][a-z0-9_]*)\.py$")

    def test_signs_lines_and_words(self):
        for path in FILES:
            text = path.read_text(encoding="utf-8")
            with self.subTest(file=path.name):
                self.assertEqual(re.findall(r"[^\n -~]", text), [])
                self.assertLessEqual(len(text.splitlines()), 400)
                self.assertLessEqual(max(len(line) for line in text.splitlines()), 120)
                self.assertIsNone(BARRED_WORDS.search(text))

    def test_functions_are_short(self):
        for path in FILES:
            for node in nodes_of(path):
                if isinstance(node, ast.FunctionDef):
                    with self.subTest(file=path.name, function=node.name):
                        self.assertLessEqual(node.end_lineno - node.lineno + 1, 40)
                        self.assertEqual(node.decorator_list, [])

    def test_no_barred_node(self):
        for path in FILES:
            for node in nodes_of(path):
                with self.subTest(file=path.name, line=getattr(node, "lineno", 0)):
                    self.assertNotIsInstance(node, BARRED_NODES)
                    if isinstance(node, ast.Constant):
                        self.assertNotIsInstance(node.value, (float, complex))
                    if isinstance(node, ast.BinOp) and isinstance(node.op, ast.Pow):
                        self.assertIsInstance(node.right, ast.Constant)

    def test_imports_are_the_packages_own(self):
        for path in FILES:
            for node in nodes_of(path):
                if isinstance(node, ast.ImportFrom):
                    with self.subTest(file=path.name, line=node.lineno):
                        self.assertTrue(node.module.startswith("boxmoves."))
                        self.assertEqual(node.level, 0)

    def test_names_are_drawn_from_the_file_that_defines_them(self):
        for path in FILES:
            for node in nodes_of(path):
                if isinstance(node, ast.ImportFrom):
                    source = PACKAGE / (node.module.removeprefix("boxmoves.") + ".py")
                    defined = set(bound_names(ast.iter_child_nodes(ast.parse(source.read_text(encoding="utf-8")))))
                    defined.update(re.findall(r"^(\w+) = ", source.read_text(encoding="utf-8"), re.MULTILINE))
                    for alias in node.names:
                        with self.subTest(file=path.name, name=alias.name):
                            self.assertIn(alias.name, defined)
                            self.assertIsNone(alias.asname)

    def test_is_stands_beside_none_and_truths_alone(self):
        for path in FILES:
            for node in nodes_of(path):
                if isinstance(node, ast.Compare) and isinstance(node.ops[0], (ast.Is, ast.IsNot)):
                    with self.subTest(file=path.name, line=node.lineno):
                        self.assertIn(ast.unparse(node.comparators[0]), ("None", "True", "False"))

    def test_plain_parameters(self):
        for path in FILES:
            for node in nodes_of(path):
                if isinstance(node, ast.arguments):
                    with self.subTest(file=path.name):
                        self.assertEqual((node.vararg, node.kwarg, node.posonlyargs), (None, None, []))

    def test_methods(self):
        own = {node.name for path in FILES for node in nodes_of(path) if isinstance(node, ast.FunctionDef)}
        for path in FILES:
            for node in nodes_of(path):
                if isinstance(node, ast.Call) and isinstance(node.func, ast.Attribute):
                    with self.subTest(file=path.name, line=node.lineno):
                        self.assertIn(node.func.attr, METHODS_OF_PYTHON | own)

    def test_no_name_hides_an_import_or_a_class(self):
        for path in FILES:
            nodes = nodes_of(path)
            classes = [node for node in nodes if isinstance(node, ast.ClassDef)]
            # A method may be called like an import: it is asked of an object alone.
            methods = [part for node in classes for part in node.body]
            drawn = {alias.name for node in nodes if isinstance(node, ast.ImportFrom) for alias in node.names}
            drawn |= {node.name for node in classes}
            others = [node for node in nodes if not isinstance(node, (ast.alias, ast.ClassDef)) and node not in methods]
            with self.subTest(file=path.name):
                self.assertEqual(drawn & set(bound_names(others)), set())

    def test_classes(self):
        for path in FILES:
            for node in nodes_of(path):
                if isinstance(node, ast.ClassDef):
                    with self.subTest(file=path.name, name=node.name):
                        self.assertEqual((node.decorator_list, node.keywords), ([], []))
                        self.assertLessEqual(len(node.bases), 1)
                        names = [part.name for part in node.body if isinstance(part, ast.FunctionDef)]
                        self.assertEqual(len(set(names)), len(names))
                        for part in node.body:
                            is_words = isinstance(part, ast.Expr) and isinstance(part.value, ast.Constant)
                            self.assertTrue(is_words or isinstance(part, ast.FunctionDef))

    def test_methods_and_values_of_objects(self):
        nodes = [node for path in FILES for node in nodes_of(path)]
        classes = [node for node in nodes if isinstance(node, ast.ClassDef)]
        methods = {part.name for node in classes for part in node.body if isinstance(part, ast.FunctionDef)}
        attributes = [node for node in nodes if isinstance(node, ast.Attribute)]
        called = [node.func for node in nodes if isinstance(node, ast.Call)]
        given = {node.attr for node in attributes if isinstance(node.ctx, ast.Store)}
        asked = {node.attr for node in attributes if isinstance(node.ctx, ast.Load) and node not in called}
        self.assertEqual(given & (methods | METHODS_OF_PYTHON), set())
        self.assertEqual(asked - given, set())
        own = {name for name in methods if not name.startswith("__")}
        of_python = {name for kind in (str, int, list, dict, set, bytes, tuple) for name in dir(kind)}
        self.assertEqual((own | given) & (of_python - METHODS_OF_PYTHON), set())

    def test_methods_that_python_itself_asks(self):
        for path in FILES:
            for node in nodes_of(path):
                if isinstance(node, ast.FunctionDef) and node.name in ("__eq__", "__len__", "__str__", "__repr__"):
                    with self.subTest(file=path.name, name=node.name):
                        inner = [part for row in node.body for part in ast.walk(row)]
                        changes = (ast.Assign, ast.AugAssign, ast.Delete)
                        self.assertEqual([part for part in inner if isinstance(part, changes)], [])
                        self.assertIsInstance(node.body[-1], ast.Return)
                        if node.name == "__len__":
                            self.assertTrue(ast.unparse(node.body[-1].value).startswith("len("))
                        if node.name == "__str__":
                            self.assertIsInstance(node.body[-1].value, ast.JoinedStr)
                if isinstance(node, ast.FunctionDef) and node.name == "__init__":
                    self.assertFalse([part for part in ast.walk(node) if isinstance(part, ast.Return)])

    def test_texts_within_braces(self):
        for path in FILES:
            for node in nodes_of(path):
                if isinstance(node, ast.FormattedValue):
                    with self.subTest(file=path.name, line=node.lineno):
                        self.assertIsNone(node.format_spec)

    def test_walked_on_the_spot(self):
        takers = set("list tuple dict sorted sum any all enumerate zip bytes min max".split())
        for path in FILES:
            nodes = nodes_of(path)
            walked = [node.iter for node in nodes if isinstance(node, (ast.For, ast.comprehension))]
            for node in nodes:
                if isinstance(node, ast.Call) and (ast.unparse(node.func) in takers or ast.unparse(node.func).endswith(".join")):
                    walked += node.args[:1]
                if isinstance(node, ast.Call) and ast.unparse(node.func) == "reversed":
                    walked += [part for part in node.args if ast.unparse(part).startswith("range(")]
            for node in nodes:
                if isinstance(node, ast.Call) and ast.unparse(node.func) in ("zip", "enumerate", "reversed", "range"):
                    with self.subTest(file=path.name, line=node.lineno):
                        self.assertIn(node, walked)

    def test_names(self):
        for path in FILES:
            nodes = nodes_of(path)
            bound = set(bound_names(nodes))
            for name in bound:
                with self.subTest(file=path.name, name=name):
                    self.assertRegex(name, r"^([A-Za-z][A-Za-z0-9_]*|__(init|eq|repr|str|len)__)$")
                    self.assertNotIn(name, dir(builtins))
            for node in nodes:
                if isinstance(node, ast.Name) and isinstance(node.ctx, ast.Load):
                    with self.subTest(file=path.name, line=node.lineno):
                        self.assertTrue(node.id in bound or node.id in NAMES_OF_PYTHON, node.id)


if __name__ == "__main__":
    unittest.main()
