"""Those rules for the package's files that can be told at a glance (L1, L2, L8, L10, L12, L14 to L18, L20, L27)."""

import ast
import builtins
import pathlib
import re
import unittest

PACKAGE = pathlib.Path(__file__).resolve().parent.parent / "dozehall"
BARRED = re.compile(
    r"\b(type|typing|typing_extensions|enum|Enum|IntEnum|StrEnum|Flag|IntFlag|Generic|Protocol|ABC|ABCMeta"
    r"|namedtuple|NamedTuple|TypedDict|TYPE_CHECKING|abstractmethod)\b|dataclass|overload|contextmanager"
)

ALLOWED_BUILTINS = set(
    "len range enumerate zip min max sum abs sorted reversed int str bool bytes list tuple dict set frozenset"
    " isinstance ord repr any all divmod super object Exception ValueError TypeError KeyError IndexError LookupError"
    " ZeroDivisionError ArithmeticError OverflowError RuntimeError NotImplementedError AttributeError StopIteration"
    " NotImplemented".split()
)


def files():
    """The package's files; what Python itself leaves there is no part of it."""
    return sorted(path for path in PACKAGE.rglob("*") if path.is_file() and "__pycache__" not in path.parts)


class Language(unittest.TestCase):
    def test_plain_files_alone(self):
        names = [path.relative_to(PACKAGE).as_posix() for path in files()]
        self.assertIn("__init__.py", names)
        for name in names:
            self.assertRegex(name, r"\A[a-z0-9_]+\.py\Z")

    def test_characters_and_sizes(self):
        for path in files():
            with self.subTest(name=path.name):
                text = path.read_bytes().decode("utf-8")
                self.assertRegex(text, r"\A[ -~\n]*\Z")
                lines = text.split("\n")
                self.assertLessEqual(len(lines), 401)
                self.assertLessEqual(max(len(line) for line in lines), 120)

    def test_barred_words(self):
        for path in files():
            with self.subTest(name=path.name):
                self.assertIsNone(BARRED.search(path.read_text()))

    def test_functions_are_short(self):
        for path in files():
            for node in ast.walk(ast.parse(path.read_text())):
                if isinstance(node, ast.FunctionDef):
                    with self.subTest(name=path.name, function=node.name):
                        self.assertLessEqual(node.end_lineno - node.lineno + 1, 40)

    def test_imports_come_from_the_package_by_full_names(self):
        for path in files():
            for node in ast.walk(ast.parse(path.read_text())):
                with self.subTest(name=path.name):
                    self.assertNotIsInstance(node, ast.Import)
                    if isinstance(node, ast.ImportFrom):
                        self.assertEqual(node.level, 0)
                        self.assertTrue(node.module == "__future__" or node.module.startswith("dozehall."))
                        self.assertNotIn("*", [name.name for name in node.names])

    def test_no_name_is_a_method_here_and_an_attribute_there(self):
        methods, attributes, read = set(), set(), set()
        for path in files():
            for node in ast.walk(ast.parse(path.read_text())):
                if isinstance(node, ast.ClassDef):
                    names = [part.name for part in node.body if isinstance(part, ast.FunctionDef)]
                    self.assertEqual(len(names), len(set(names)))
                    methods.update(names)
                if isinstance(node, ast.Attribute):
                    (read if isinstance(node.ctx, ast.Load) else attributes).add(node.attr)
        self.assertEqual(methods & attributes, set())
        known = methods | attributes | set(dir(list)) | set(dir(dict)) | set(dir(str)) | set(dir(set))
        self.assertEqual(read - known, set())

    def test_names(self):
        for path in files():
            tree = ast.parse(path.read_text())
            taken = {node.name for node in ast.walk(tree) if isinstance(node, ast.ClassDef)} | set(dir(builtins))
            for node in ast.walk(tree):
                if isinstance(node, ast.ImportFrom):
                    taken.update(name.asname or name.name for name in node.names)
            for node in ast.walk(tree):
                with self.subTest(name=path.name, line=getattr(node, "lineno", 0)):
                    if isinstance(node, ast.arg):
                        self.assertNotIn(node.arg, taken)
                        self.assertFalse(node.arg.startswith("_"))
                    if isinstance(node, ast.Name) and not isinstance(node.ctx, ast.Load):
                        self.assertNotIn(node.id, taken)
                        self.assertFalse(node.id.startswith("_"))
                    if isinstance(node, ast.Name) and isinstance(node.ctx, ast.Load) and node.id in dir(builtins):
                        self.assertIn(node.id, ALLOWED_BUILTINS)

    def test_signs(self):
        for path in files():
            for node in ast.walk(ast.parse(path.read_text())):
                with self.subTest(name=path.name, line=getattr(node, "lineno", 0)):
                    self.assertNotIsInstance(node, (ast.Div, ast.Global, ast.AsyncFunctionDef, ast.Yield))
                    if isinstance(node, ast.Compare):
                        for sign, right in zip(node.ops, node.comparators):
                            if isinstance(sign, (ast.Is, ast.IsNot)):
                                self.assertTrue(isinstance(right, ast.Constant) and right.value in (None, True, False))
                    if isinstance(node, ast.Constant):
                        self.assertNotIsInstance(node.value, (float, complex))
                        self.assertFalse(isinstance(node.value, str) and "%" in node.value)

    def test_no_two_files_import_from_each_other(self):
        imports = {}
        for path in files():
            nodes = [node for node in ast.walk(ast.parse(path.read_text())) if isinstance(node, ast.ImportFrom)]
            imports[path.stem] = [node.module.partition(".")[2] for node in nodes]
        while imports:
            free = [name for name in imports if not any(other in imports for other in imports[name])]
            self.assertTrue(free, imports)
            for name in free:
                del imports[name]


if __name__ == "__main__":
    unittest.main()
