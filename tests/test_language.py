"""Those rules for the package's files that can be told at a glance (L1, L2, L10, L14, L16, L17)."""

import ast
import pathlib
import re
import unittest

PACKAGE = pathlib.Path(__file__).resolve().parent.parent / "dozehall"
BARRED = re.compile(
    r"\b(type|typing|typing_extensions|enum|Enum|IntEnum|StrEnum|Flag|IntFlag|Generic|Protocol|ABC|ABCMeta"
    r"|namedtuple|NamedTuple|TypedDict|TYPE_CHECKING|abstractmethod)\b|dataclass|overload|contextmanager"
)


def files():
    """The package's files; what Python itself leaves there is no part of it."""
    return sorted(path for path in PACKAGE.rglob("*") if path.is_file() and "__pycache__" not in path.parts)


class Language(unittest.TestCase):
    def test_plain_files_alone(self):
        names = [path.relative_to(PACKAGE).as_posix() for path in files()]
        self.assertIn("__init__.py", names)
        for name in names:
            self.assertRegex(name, r"\A[a-z0-9_]+\.py\Z")

    def test_characters_and_sizes(self):
        for path in files():
            with self.subTest(name=path.name):
                text = path.read_bytes().decode("utf-8")
                self.assertRegex(text, r"\A[ -~\n]*\Z")
                lines = text.split("\n")
                self.assertLessEqual(len(lines), 401)
                self.assertLessEqual(max(len(line) for line in lines), 120)

    def test_barred_words(self):
        for path in files():
            with self.subTest(name=path.name):
                self.assertIsNone(BARRED.search(path.read_text()))

    def test_functions_are_short(self):
        for path in files():
            for node in ast.walk(ast.parse(path.read_text())):
                if isinstance(node, ast.FunctionDef):
                    with self.subTest(name=path.name, function=node.name):
                        self.assertLessEqual(node.end_lineno - node.lineno + 1, 40)

    def test_imports_come_from_the_package_by_full_names(self):
        for path in files():
            for node in ast.walk(ast.parse(path.read_text())):
                with self.subTest(name=path.name):
                    self.assertNotIsInstance(node, ast.Import)
                    if isinstance(node, ast.ImportFrom):
                        self.assertEqual(node.level, 0)
                        self.assertTrue(node.module == "__future__" or node.module.startswith("dozehall."))
                        self.assertNotIn("*", [name.name for name in node.names])


if __name__ == "__main__":
    unittest.main()
