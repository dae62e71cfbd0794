"""The rules of the language subset that can be told from the text of a file alone."""

import ast
import builtins
import pathlib
import re
import unittest

ROOT = pathlib.Path(__file__).resolve().parent.parent
PACKAGE = ROOT / "webtones"
FILES = sorted(PACKAGE.rglob("*.py"))

ALLOWED_BUILTINS = set(
    "len range enumerate zip min max sum abs sorted reversed int str bool bytes list tuple dict set frozenset "
    "isinstance ord repr any all divmod Exception ValueError TypeError KeyError IndexError LookupError "
    "ZeroDivisionError ArithmeticError OverflowError RuntimeError NotImplementedError AttributeError "
    "StopIteration NotImplemented super property staticmethod classmethod".split()
)
BARRED_WORDS = re.compile(
    r"\b(type|typing|typing_extensions|enum|Enum|IntEnum|StrEnum|Flag|IntFlag|Generic|Protocol|ABC|ABCMeta|"
    r"namedtuple|NamedTuple|TypedDict|TYPE_CHECKING|abstractmethod)\b|dataclass|overload|contextmanager"
)
BARRED_NODES = (
    ast.Global, ast.AsyncFunctionDef, ast.AsyncFor, ast.AsyncWith, ast.Await, ast.Div, ast.MatMult, ast.Import,
)


def bound_names(tree):
    for node in ast.walk(tree):
        if isinstance(node, ast.Name) and isinstance(node.ctx, ast.Store):
            yield node.id
        elif isinstance(node, ast.arg):
            yield node.arg
        elif isinstance(node, (ast.FunctionDef, ast.ClassDef)):
            yield node.name
        elif isinstance(node, ast.ImportFrom):
            for alias in node.names:
                yield alias.asname or alias.name


class Language(unittest.TestCase):
    def each(self, check):
        for path in FILES:
            with self.subTest(file=str(path.relative_to(ROOT))):
                text = path.read_text(encoding="utf-8")
                check(text, ast.parse(text))

    def test_files(self):
        self.assertTrue(FILES)
        self.assertLessEqual(len(FILES), 100)
        for path in PACKAGE.rglob("*"):
            if path.name == "__pycache__" or path.suffix == ".pyc":
                continue
            with self.subTest(path=str(path)):
                if path.is_dir():
                    self.assertTrue((path / "__init__.py").is_file())
                    self.assertFalse(path.with_suffix(".py").exists())
                else:
                    self.assertRegex(path.name, r"^([a-z][a-z0-9_]*|__init__|__main__)\.py$")

    def test_characters_and_sizes(self):
        def check(text, tree):
            self.assertRegex(text, r"^[ -~\n]*\Z")
            lines = text.split("\n")
            self.assertLessEqual(len(lines), 400)
            self.assertLessEqual(max(map(len, lines)), 120)
            for node in ast.walk(tree):
                if isinstance(node, ast.FunctionDef):
                    self.assertLessEqual(node.end_lineno - node.lineno + 1, 40, node.name)

        self.each(check)

    def test_barred_words_and_statements(self):
        def check(text, tree):
            self.assertIsNone(BARRED_WORDS.search(text))
            for node in ast.walk(tree):
                self.assertNotIsInstance(node, BARRED_NODES)
                if isinstance(node, ast.Constant):
                    self.assertNotIsInstance(node.value, (float, complex))
                    if isinstance(node.value, str):
                        self.assertNotIn("%", node.value)

        self.each(check)

    def test_imports_are_from_the_very_file(self):
        def check(text, tree):
            for node in ast.walk(tree):
                if isinstance(node, ast.ImportFrom) and node.module != "__future__":
                    self.assertEqual(node.level, 0)
                    self.assertTrue(node.module.startswith("webtones."), node.module)
                    source = ROOT.joinpath(*node.module.split(".")).with_suffix(".py")
                    defined = ast.parse(source.read_text(encoding="utf-8")).body
                    told = {name for row in defined if not isinstance(row, ast.ImportFrom) for name in bound_names(row)}
                    for alias in node.names:
                        self.assertIn(alias.name, told)

        self.each(check)

    def test_names(self):
        def check(text, tree):
            imported = {
                alias.name for node in tree.body if isinstance(node, ast.ImportFrom) for alias in node.names
            }
            for name in bound_names(tree):
                if not re.fullmatch(r"__[a-z]+__", name):
                    self.assertRegex(name, r"^[A-Za-z][A-Za-z0-9_]*$")
                    self.assertFalse(hasattr(builtins, name), name)
            for node in ast.walk(tree):
                if isinstance(node, ast.Name) and hasattr(builtins, node.id):
                    self.assertIn(node.id, ALLOWED_BUILTINS)
                if isinstance(node, ast.arg):
                    self.assertNotIn(node.arg, imported)
                if isinstance(node, ast.Name) and isinstance(node.ctx, ast.Store):
                    self.assertNotIn(node.id, imported)

        self.each(check)


if __name__ == "__main__":
    unittest.main()
