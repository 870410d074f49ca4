"""The package keeps to the small part of Python that it is written in, as far as a look at its files can tell."""

import ast
import builtins
import io
import pathlib
import re
import tokenize
import unittest

PACKAGE = pathlib.Path(__file__).resolve().parent.parent / "safegaps"
FILES = sorted(path for path in PACKAGE.rglob("*.py"))

ERRORS = (
    "Exception ValueError TypeError KeyError IndexError LookupError ZeroDivisionError ArithmeticError OverflowError "
    "RuntimeError NotImplementedError AttributeError StopIteration"
).split()
OWN_NAMES = (
    "len range enumerate zip min max sum abs sorted reversed int str bool list tuple dict set frozenset isinstance ord "
    "repr any all divmod"
).split() + ERRORS
METHODS = (
    "append clear copy count endswith extend find get index insert isalnum isalpha isdigit islower isspace isupper "
    "items join keys ljust lower lstrip partition pop remove replace reverse rfind rjust rpartition rsplit rstrip "
    "setdefault split splitlines startswith strip update upper values zfill bit_length"
).split()
NO_NAMES = (
    "register mro elements open input version_info with_traceback add_note attrgetter breakpoint builtins compile "
    "copyright credits delattr dir eval exec exit gc getattr globals hasattr help id importlib license locals "
    "methodcaller os quit setattr super type vars sys __name__ chr format format_map"
).split()
NO_WORDS = re.compile(
    r"\b(type|typing|typing_extensions|enum|Enum|IntEnum|StrEnum|Flag|IntFlag|Generic|Protocol|ABC|ABCMeta|namedtuple|"
    r"NamedTuple|TypedDict|TYPE_CHECKING|abstractmethod)\b|dataclass|overload|contextmanager"
)
SPECIAL = ("__init__", "__eq__", "__repr__", "__str__", "__len__")
NODES = (
    "Module Expr ImportFrom alias FunctionDef arguments arg ClassDef Assign AugAssign If While For Return Break Continue "
    "Pass Raise Try ExceptHandler Constant Name Load Store List Tuple Dict BinOp Add Sub Mult FloorDiv Mod Pow BitAnd "
    "BitOr BitXor LShift RShift UnaryOp USub Not Invert UAdd Compare Eq NotEq Lt LtE Gt GtE Is IsNot In NotIn BoolOp And "
    "Or IfExp Call keyword Attribute Subscript Slice ListComp comprehension JoinedStr FormattedValue Lambda"
).split()
BUILTINS = dir(builtins)


def source(path):
    return path.read_text(encoding="utf-8")


def nodes(path, *kinds):
    for node in ast.walk(ast.parse(source(path))):
        if not kinds or isinstance(node, kinds):
            yield node


def bound_names(path):
    """Every name that the file binds, but methods and values of objects."""
    for node in nodes(path):
        if isinstance(node, ast.Name) and isinstance(node.ctx, ast.Store):
            yield node.id
        elif isinstance(node, ast.arg):
            yield node.arg
        elif isinstance(node, ast.ExceptHandler) and node.name:
            yield node.name
    for node in ast.parse(source(path)).body:
        if isinstance(node, (ast.FunctionDef, ast.ClassDef)):
            yield node.name


def object_names(path):
    """The methods and values of the file's objects."""
    for node in nodes(path):
        if isinstance(node, ast.ClassDef):
            for part in node.body:
                if isinstance(part, ast.FunctionDef):
                    yield part.name
        elif isinstance(node, ast.Attribute) and isinstance(node.ctx, ast.Store):
            yield node.attr


def local_names(path):
    """The parameters of the file's functions, and what is given a value within them."""
    for node in nodes(path, ast.FunctionDef, ast.Lambda):
        for part in ast.walk(node):
            if isinstance(part, ast.arg):
                yield part.arg
            elif isinstance(part, ast.Name) and isinstance(part.ctx, ast.Store):
                yield part.id


def on_each_file(check):
    def test(self):
        self.assertTrue(FILES)
        for path in FILES:
            with self.subTest(path.name):
                check(self, path)
    return test


class LanguageTest(unittest.TestCase):
    def test_the_package(self):
        there = [path for path in PACKAGE.rglob("*") if "__pycache__" not in path.parts]
        self.assertEqual(sorted(there), FILES)
        self.assertIn(PACKAGE / "__init__.py", FILES)

    @on_each_file
    def test_files_and_signs(self, path):
        self.assertRegex(path.stem, r"^[a-z][a-z0-9_]*$|^__init__$")
        self.assertNotRegex(path.stem, r"^(test.*|site|conftest|sitecustomize|usercustomize)$")
        self.assertNotIn(path.stem, BUILTINS)
        self.assertRegex(path.read_bytes().decode("ascii"), r"^[\n -~]*$")

    @on_each_file
    def test_size(self, path):
        rows = source(path).split("\n")
        self.assertLessEqual(len(rows), 400)
        self.assertLessEqual(max(len(row) for row in rows), 120)
        for node in nodes(path, ast.FunctionDef):
            self.assertLessEqual(node.end_lineno - node.lineno + 1, 40, node.name)

    @on_each_file
    def test_nodes(self, path):
        for node in nodes(path):
            self.assertIn(node.__class__.__name__, NODES, getattr(node, "lineno", 0))

    @on_each_file
    def test_imports(self, path):
        for node in nodes(path, ast.ImportFrom):
            self.assertEqual(node.level, 0)
            drawn = PACKAGE.parent / (node.module.replace(".", "/") + ".py")
            self.assertIn(drawn, FILES)
            defined = list(self.top_names(drawn))
            for alias in node.names:
                self.assertIn(alias.name, defined)
                self.assertIsNone(alias.asname)

    def top_names(self, path):
        for node in ast.parse(source(path)).body:
            if isinstance(node, (ast.FunctionDef, ast.ClassDef)):
                yield node.name
            elif isinstance(node, ast.Assign):
                yield node.targets[0].id

    def test_no_file_draws_from_itself_by_others(self):
        draws = {}
        for path in FILES:
            draws[f"safegaps.{path.stem}"] = [node.module for node in nodes(path, ast.ImportFrom)]
        for start in draws:
            reached = []
            waiting = list(draws[start])
            while waiting:
                module = waiting.pop()
                if module not in reached:
                    reached.append(module)
                    waiting.extend(draws[module])
            self.assertNotIn(start, reached)

    @on_each_file
    def test_tops(self, path):
        body = ast.parse(source(path)).body
        self.assertIsNotNone(ast.get_docstring(ast.parse(source(path))))
        functions = []
        for node in body[1:]:
            self.assertIsInstance(node, (ast.ImportFrom, ast.FunctionDef, ast.ClassDef, ast.Assign))
            if isinstance(node, ast.FunctionDef):
                functions.append(node.name)
            elif isinstance(node, ast.Assign):
                self.check_plain(node.value, functions, False)
        names = list(self.top_names(path))
        self.assertEqual(len(names), len(set(names)))

    def check_plain(self, value, functions, within):
        if isinstance(value, ast.Name):
            self.assertIn(value.id, functions, value.lineno)
            return
        self.assertIsInstance(value, (ast.Constant, ast.Tuple, ast.List, ast.Dict), value.lineno)
        if within:
            self.assertNotIsInstance(value, (ast.List, ast.Dict), value.lineno)
        for part in getattr(value, "elts", []) + getattr(value, "keys", []) + getattr(value, "values", []):
            self.check_plain(part, functions, True)

    @on_each_file
    def test_functions_and_classes(self, path):
        for node in nodes(path, ast.FunctionDef, ast.ClassDef):
            self.assertEqual(node.decorator_list, [])
        for node in nodes(path, ast.arguments):
            self.assertEqual((node.vararg, node.kwarg, node.kwonlyargs, node.posonlyargs), (None, None, [], []))
        for node in nodes(path, ast.ClassDef):
            self.assertLessEqual(len(node.bases), 1)
            self.assertEqual(node.keywords, [])
            for part in node.body:
                docstring = isinstance(part, ast.Expr) and isinstance(part.value, ast.Constant)
                self.assertTrue(docstring or isinstance(part, ast.FunctionDef), part.lineno)

    @on_each_file
    def test_names(self, path):
        for name in bound_names(path):
            self.assertRegex(name, r"^[A-Za-z][A-Za-z0-9_]*$")
            self.assertNotIn(name, BUILTINS)
            self.assertNotIn(name, NO_NAMES)
        for name in object_names(path):
            if name not in SPECIAL:
                self.assertRegex(name, r"^[A-Za-z][A-Za-z0-9_]*$")

    @on_each_file
    def test_names_of_pythons_own(self, path):
        for node in nodes(path, ast.Name):
            self.assertNotIn(node.id, NO_NAMES, node.lineno)
            if node.id in BUILTINS:
                self.assertIn(node.id, OWN_NAMES, node.lineno)

    @on_each_file
    def test_methods(self, path):
        own = [name for file in FILES for name in object_names(file)]
        for node in nodes(path, ast.Attribute):
            self.assertNotIn(node.attr, ("open", "input", "format", "format_map", "mro", "register", "elements"))
            self.assertIn(node.attr, METHODS + own + ["__init__"], node.lineno)

    @on_each_file
    def test_locals_leave_classes_and_imports_alone(self, path):
        taken = [alias.name for node in nodes(path, ast.ImportFrom) for alias in node.names]
        taken += [node.name for node in nodes(path, ast.ClassDef)]
        for name in local_names(path):
            self.assertNotIn(name, taken)

    def test_no_name_is_a_method_here_and_a_value_there(self):
        methods = []
        values = []
        for path in FILES:
            for node in nodes(path, ast.ClassDef):
                names = [part.name for part in node.body if isinstance(part, ast.FunctionDef)]
                self.assertEqual(len(names), len(set(names)), node.name)
                methods += names
            values += [node.attr for node in nodes(path, ast.Attribute) if isinstance(node.ctx, ast.Store)]
        self.assertEqual(set(methods) & set(values), set())
        self.assertEqual(set(values) & set(METHODS) - {"count", "index", "find", "get", "join", "copy"}, set())

    @on_each_file
    def test_words(self, path):
        self.assertIsNone(NO_WORDS.search(source(path)))

    @on_each_file
    def test_is(self, path):
        for node in nodes(path, ast.Compare):
            for sort, right in zip(node.ops, node.comparators):
                if isinstance(sort, (ast.Is, ast.IsNot)):
                    self.assertIsInstance(right, ast.Constant, node.lineno)
                    self.assertIn(right.value, (None, True, False), node.lineno)

    @on_each_file
    def test_statements_and_expressions(self, path):
        for node in nodes(path, ast.Assign):
            self.assertEqual(len(node.targets), 1, node.lineno)
        for node in nodes(path, ast.For, ast.While):
            self.assertEqual(node.orelse, [], node.lineno)
        for node in nodes(path, ast.Try):
            self.assertEqual(node.finalbody, [], node.lineno)
        for node in nodes(path, ast.ExceptHandler):
            self.assertIsNotNone(node.type, node.lineno)
        for node in nodes(path, ast.ListComp):
            self.assertEqual(len(node.generators), 1, node.lineno)
            self.assertLessEqual(len(node.generators[0].ifs), 1, node.lineno)
        for node in nodes(path, ast.FormattedValue):
            self.assertIsInstance(node.value, ast.Name, node.lineno)
            self.assertIsNone(node.format_spec, node.lineno)

    @on_each_file
    def test_values(self, path):
        for node in nodes(path, ast.Constant):
            self.assertIsInstance(node.value, (int, str, bool, None.__class__), node.lineno)
            if isinstance(node.value, str):
                self.assertNotIn("%", node.value, node.lineno)
        for node in nodes(path, ast.BinOp):
            if isinstance(node.op, ast.Pow):
                self.assertIsInstance(node.right, ast.Constant, node.lineno)
        for token in tokenize.generate_tokens(io.StringIO(source(path)).readline):
            if token.type == tokenize.STRING:
                bare = token.string.replace("\\\\", "")
                self.assertNotRegex(bare, r"\\[^nt\"']", token.start)


if __name__ == "__main__":
    unittest.main()
