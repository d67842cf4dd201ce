"""The rules of ../shared/LANGUAGE.md that can be seen by a short look at the package's files."""

import ast
import builtins
import os
import re
import unittest

PACKAGE = os.path.join(os.path.dirname(os.path.dirname(os.path.abspath(__file__))), "numbersay")
BUILTINS = set(
    "len range enumerate zip min max sum abs sorted reversed int str bool bytes list tuple dict set frozenset"
    " isinstance ord repr any all divmod super property staticmethod classmethod Exception ValueError KeyError"
    " IndexError LookupError ZeroDivisionError ArithmeticError OverflowError RuntimeError NotImplementedError"
    " StopIteration object".split()
)
BARRED = re.compile(
    r"\b(type|typing|typing_extensions|enum|Enum|IntEnum|StrEnum|Flag|IntFlag|Generic|Protocol|ABC|ABCMeta"
    r"|namedtuple|NamedTuple|TypedDict|TYPE_CHECKING|abstractmethod)\b|dataclass|overload|contextmanager"
)
METHODS = set(
    "append clear copy count endswith extend find get index insert items join keys pop remove replace reverse"
    " setdefault sort split startswith strip update values add discard isdigit partition rpartition".split()
)


def sources():
    for name in sorted(os.listdir(PACKAGE)):
        if name != "__pycache__":
            with open(os.path.join(PACKAGE, name), encoding="utf-8", newline="") as file:
                yield name, file.read()


def nodes(kind):
    for name, text in sources():
        for node in ast.walk(ast.parse(text)):
            if isinstance(node, kind):
                yield name, node


class LanguageTest(unittest.TestCase):

    def test_files_and_signs(self):
        for name, text in sources():
            with self.subTest(file=name):
                self.assertRegex(name, r"\A[a-z0-9_]+\.py\Z")
                self.assertRegex(text, r"\A[ -~\n]*\Z")
                self.assertIsNone(BARRED.search(text))

    def test_sizes(self):
        for name, text in sources():
            with self.subTest(file=name):
                lines = text.split("\n")
                self.assertLessEqual(len(lines), 400)
                self.assertLessEqual(max(len(line) for line in lines), 120)
        for name, node in nodes(ast.FunctionDef):
            with self.subTest(file=name, function=node.name):
                self.assertLessEqual(node.end_lineno - node.lineno + 1, 40)

    def test_imports(self):
        self.assertEqual(list(nodes(ast.Import)), [])
        for name, node in nodes(ast.ImportFrom):
            with self.subTest(file=name, line=node.lineno):
                self.assertEqual(node.level, 0)
                self.assertRegex(node.module, r"\Anumbersay\.[a-z0-9_]+\Z")

    def test_builtins(self):
        for name, node in nodes(ast.Name):
            with self.subTest(file=name, line=node.lineno):
                self.assertFalse(node.id.startswith("_"))
                if hasattr(builtins, node.id):
                    self.assertIn(node.id, BUILTINS)
                    self.assertIsInstance(node.ctx, ast.Load)

    def test_no_percent_sign_in_a_string(self):
        for name, node in nodes(ast.Constant):
            if isinstance(node.value, str):
                with self.subTest(file=name, line=node.lineno):
                    self.assertNotIn("%", node.value)

    def test_attributes_that_are_read_are_assigned(self):
        known = {node.attr for _, node in nodes(ast.Attribute) if isinstance(node.ctx, ast.Store)}
        for _, node in nodes(ast.ClassDef):
            known.update(row.name for row in node.body if isinstance(row, ast.FunctionDef))
        for name, node in nodes(ast.Attribute):
            with self.subTest(file=name, line=node.lineno):
                self.assertTrue(node.attr in known or node.attr in METHODS or node.attr == "__init__")


if __name__ == "__main__":
    unittest.main()
