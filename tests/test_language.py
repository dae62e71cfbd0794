"""The rules of the language subset that can be told from the text of a file alone."""

import ast
import builtins
import pathlib
import re
import unittest

ROOT = pathlib.Path(__file__).resolve().parent.parent
PACKAGE = ROOT / "webtones"
FILES = sorted(PACKAGE.rglob("*.py"))

ALLOWED_BUILTINS = set(
    "len range enumerate zip min max sum abs sorted reversed int str bool bytes list tuple dict set frozenset "
    "isinstance ord repr any all divmod Exception ValueError TypeError KeyError IndexError LookupError "
    "ZeroDivisionError ArithmeticError OverflowError RuntimeError NotImplementedError AttributeError "
    "StopIteration NotImplemented super property staticmethod classmethod".split()
)
BARRED_WORDS = re.compile(
    r"\b(type|typing|typing_extensions|enum|Enum|IntEnum|StrEnum|Flag|IntFlag|Generic|Protocol|ABC|ABCMeta|"
    r"namedtuple|NamedTuple|TypedDict|TYPE_CHECKING|abstractmethod)\b|dataclass|overload|contextmanager"
)
BARRED_NODES = (
    ast.Global, ast.AsyncFunctionDef, ast.AsyncFor, ast.AsyncWith, ast.Await, ast.Div, ast.MatMult, ast.Import,
)

TAKERS = set("list tuple dict sorted sum min max any all join enumerate zip len reversed".split())
ITERATED = set("zip enumerate reversed range items keys values".split())
METHODS = set(
    "append clear copy count endswith extend find get index insert isalnum isalpha isdigit islower isspace isupper "
    "items join keys ljust lower lstrip partition pop remove replace reverse rfind rjust rpartition rsplit rstrip "
    "setdefault split splitlines startswith strip update upper values zfill bit_length add discard __init__".split()
)


def called(node):
    """The name of the function or the method that is called."""
    return node.func.id if isinstance(node.func, ast.Name) else getattr(node.func, "attr", None)


def own_methods():
    """The names of the methods of all classes of the package."""
    for path in FILES:
        for node in ast.walk(ast.parse(path.read_text(encoding="utf-8"))):
            if isinstance(node, ast.ClassDef):
                yield from (row.name for row in node.body if isinstance(row, ast.FunctionDef))


def bound_names(tree):
    for node in ast.walk(tree):
        if isinstance(node, ast.Name) and isinstance(node.ctx, ast.Store):
            yield node.id
        elif isinstance(node, ast.arg):
            yield node.arg
        elif isinstance(node, (ast.FunctionDef, ast.ClassDef)):
            yield node.name
        elif isinstance(node, ast.ImportFrom):
            for alias in node.names:
                yield alias.asname or alias.name


class Language(unittest.TestCase):
    def each(self, check):
        for path in FILES:
            with self.subTest(file=str(path.relative_to(ROOT))):
                text = path.read_text(encoding="utf-8")
                check(text, ast.parse(text))

    def test_files(self):
        self.assertTrue(FILES)
        self.assertLessEqual(len(FILES), 100)
        for path in PACKAGE.rglob("*"):
            if path.name == "__pycache__" or path.suffix == ".pyc":
                continue
            with self.subTest(path=str(path)):
                if path.is_dir():
                    self.assertTrue((path / "__init__.py").is_file())
                    self.assertFalse(path.with_suffix(".py").exists())
                else:
                    self.assertRegex(path.name, r"^([a-z][a-z0-9_]*|__init__|__main__)\.py$")

    def test_characters_and_sizes(self):
        def check(text, tree):
            self.assertRegex(text, r"^[ -~\n]*\Z")
            lines = text.split("\n")
            self.assertLessEqual(len(lines), 400)
            self.assertLessEqual(max(map(len, lines)), 120)
            for node in ast.walk(tree):
                if isinstance(node, ast.FunctionDef):
                    self.assertLessEqual(node.end_lineno - node.lineno + 1, 40, node.name)

        self.each(check)

    def test_barred_words_and_statements(self):
        def check(text, tree):
            self.assertIsNone(BARRED_WORDS.search(text))
            for node in ast.walk(tree):
                self.assertNotIsInstance(node, BARRED_NODES)
                if isinstance(node, ast.Constant):
                    self.assertNotIsInstance(node.value, (float, complex))
                    if isinstance(node.value, str):
                        self.assertNotIn("%", node.value)

        self.each(check)

    def test_imports_are_from_the_very_file(self):
        def check(text, tree):
            for node in ast.walk(tree):
                if isinstance(node, ast.ImportFrom) and node.module != "__future__":
                    self.assertEqual(node.level, 0)
                    self.assertTrue(node.module.startswith("webtones."), node.module)
                    source = ROOT.joinpath(*node.module.split(".")).with_suffix(".py")
                    defined = ast.parse(source.read_text(encoding="utf-8")).body
                    told = {name for row in defined if not isinstance(row, ast.ImportFrom) for name in bound_names(row)}
                    for alias in node.names:
                        self.assertIn(alias.name, told)

        self.each(check)

    def test_names(self):
        def check(text, tree):
            imported = {
                alias.name for node in tree.body if isinstance(node, ast.ImportFrom) for alias in node.names
            }
            for name in bound_names(tree):
                if not re.fullmatch(r"__[a-z]+__", name):
                    self.assertRegex(name, r"^[A-Za-z][A-Za-z0-9_]*$")
                    self.assertFalse(hasattr(builtins, name), name)
            for node in ast.walk(tree):
                if isinstance(node, ast.Name) and hasattr(builtins, node.id):
                    self.assertIn(node.id, ALLOWED_BUILTINS)
                if isinstance(node, ast.arg):
                    self.assertNotIn(node.arg, imported)
                if isinstance(node, ast.Name) and isinstance(node.ctx, ast.Store):
                    self.assertNotIn(node.id, imported)

        self.each(check)

    def test_exponents_are_written_out(self):
        def check(text, tree):
            for node in ast.walk(tree):
                if isinstance(node, (ast.BinOp, ast.AugAssign)) and isinstance(node.op, ast.Pow):
                    exponent = node.right if isinstance(node, ast.BinOp) else node.value
                    self.assertIsInstance(exponent, ast.Constant)

        self.each(check)

    def test_what_is_iterated_at_once(self):
        def check(text, tree):
            allowed = set()
            for node in ast.walk(tree):
                if isinstance(node, (ast.For, ast.comprehension)):
                    allowed.add(id(node.iter))
                elif isinstance(node, ast.Call) and called(node) in TAKERS and node.args:
                    allowed.update(id(argument) for argument in node.args)
            for node in ast.walk(tree):
                if isinstance(node, ast.GeneratorExp) or isinstance(node, ast.Call) and called(node) in ITERATED:
                    self.assertIn(id(node), allowed, getattr(node, "lineno", None))

        self.each(check)

    def test_is_stands_with_none_and_truths_only(self):
        def check(text, tree):
            for node in ast.walk(tree):
                if isinstance(node, ast.Compare) and isinstance(node.ops[0], (ast.Is, ast.IsNot)):
                    self.assertIsInstance(node.comparators[0], ast.Constant)
                    self.assertIn(node.comparators[0].value, (None, True, False))

        self.each(check)

    def test_methods_are_those_of_builtin_values_and_own_ones(self):
        own = set(own_methods())

        def check(text, tree):
            for node in ast.walk(tree):
                if isinstance(node, ast.Call) and isinstance(node.func, ast.Attribute):
                    self.assertIn(node.func.attr, METHODS | own)

        self.each(check)

    def test_no_name_is_a_method_and_an_attribute(self):
        own = set(own_methods())

        def check(text, tree):
            for node in ast.walk(tree):
                if isinstance(node, ast.Attribute) and isinstance(node.ctx, ast.Store):
                    self.assertNotIn(node.attr, own)

        self.each(check)

    def test_no_two_files_import_from_each_other(self):
        sources = {}
        for path in FILES:
            name = ".".join(path.relative_to(ROOT).with_suffix("").parts)
            rows = ast.parse(path.read_text(encoding="utf-8")).body
            sources[name] = [row.module for row in rows if isinstance(row, ast.ImportFrom)]

        def reached(name, path):
            self.assertNotIn(name, path)
            for source in sources[name]:
                reached(source, path + [name])

        for name in sources:
            reached(name, [])


if __name__ == "__main__":
    unittest.main()
