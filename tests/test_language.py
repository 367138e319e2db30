"""Those rules for the package's files that can be told at a glance (L1 to L3, L7, L8, L10, L12, L14 to L25, L27)."""

import ast
import builtins
import pathlib
import re
import unittest

PACKAGE = pathlib.Path(__file__).resolve().parent.parent / "dozehall"
BARRED = re.compile(
    r"\b(type|typing|typing_extensions|enum|Enum|IntEnum|StrEnum|Flag|IntFlag|Generic|Protocol|ABC|ABCMeta"
    r"|namedtuple|NamedTuple|TypedDict|TYPE_CHECKING|abstractmethod)\b|dataclass|overload|contextmanager"
)

ALLOWED_BUILTINS = set(
    "len range enumerate zip min max sum abs sorted reversed int str bool bytes list tuple dict set frozenset"
    " isinstance ord repr any all divmod super object Exception ValueError TypeError KeyError IndexError LookupError"
    " ZeroDivisionError ArithmeticError OverflowError RuntimeError NotImplementedError AttributeError StopIteration"
    " NotImplemented".split()
)

# The methods of builtin values, but for those of bytes, which the package has none of.
ALLOWED_METHODS = set(
    "append clear copy count endswith extend find get index insert isalnum isalpha isdigit islower isspace isupper items"
    " join keys ljust lower lstrip partition pop remove replace reverse rfind rjust rpartition rsplit rstrip setdefault"
    " split splitlines startswith strip update upper values zfill bit_length title capitalize swapcase casefold center"
    " expandtabs removeprefix removesuffix rindex isascii isdecimal isnumeric istitle isidentifier isprintable".split()
)
# What takes an iterator or a generator expression on the spot.
TAKERS = set("list tuple dict sorted sum any all min max".split())
KEYWORDS = {"sorted": {"key", "reverse"}, "min": {"key", "default"}, "max": {"key", "default"}, "sum": {"start"},
            "enumerate": {"start"}, "zip": {"strict"}}


def nodes_with_parents(path):
    """Each node of a file with the node that it stands in."""
    for parent in ast.walk(ast.parse(path.read_text())):
        for node in ast.iter_child_nodes(parent):
            yield node, parent


def own_names(kinds):
    """The names of all functions, methods or classes of the package."""
    return {node.name for path in files() for node in ast.walk(ast.parse(path.read_text())) if isinstance(node, kinds)}


def called(node):
    """The name of the builtin, function or method that is called there, if one is by its name."""
    if isinstance(node, ast.Call) and isinstance(node.func, ast.Name):
        return node.func.id
    if isinstance(node, ast.Call) and isinstance(node.func, ast.Attribute):
        return node.func.attr
    return None


def files():
    """The package's files; what Python itself leaves there is no part of it."""
    return sorted(path for path in PACKAGE.rglob("*") if path.is_file() and "__pycache__" not in path.parts)


class Language(unittest.TestCase):
    def test_plain_files_alone(self):
        names = [path.relative_to(PACKAGE).as_posix() for path in files()]
        self.assertIn("__init__.py", names)
        for name in names:
            self.assertRegex(name, r"\A[a-z0-9_]+\.py\Z")

    def test_characters_and_sizes(self):
        for path in files():
            with self.subTest(name=path.name):
                text = path.read_bytes().decode("utf-8")
                self.assertRegex(text, r"\A[ -~\n]*\Z")
                lines = text.split("\n")
                self.assertLessEqual(len(lines), 401)
                self.assertLessEqual(max(len(line) for line in lines), 120)

    def test_barred_words(self):
        for path in files():
            with self.subTest(name=path.name):
                self.assertIsNone(BARRED.search(path.read_text()))

    def test_functions_are_short(self):
        for path in files():
            for node in ast.walk(ast.parse(path.read_text())):
                if isinstance(node, ast.FunctionDef):
                    with self.subTest(name=path.name, function=node.name):
                        self.assertLessEqual(node.end_lineno - node.lineno + 1, 40)

    def test_imports_come_from_the_package_by_full_names(self):
        for path in files():
            for node in ast.walk(ast.parse(path.read_text())):
                with self.subTest(name=path.name):
                    self.assertNotIsInstance(node, ast.Import)
                    if isinstance(node, ast.ImportFrom):
                        self.assertEqual(node.level, 0)
                        self.assertTrue(node.module == "__future__" or node.module.startswith("dozehall."))
                        self.assertNotIn("*", [name.name for name in node.names])

    def test_no_name_is_a_method_here_and_an_attribute_there(self):
        methods, attributes, read = set(), set(), set()
        for path in files():
            for node in ast.walk(ast.parse(path.read_text())):
                if isinstance(node, ast.ClassDef):
                    names = [part.name for part in node.body if isinstance(part, ast.FunctionDef)]
                    self.assertEqual(len(names), len(set(names)))
                    methods.update(names)
                if isinstance(node, ast.Attribute):
                    (read if isinstance(node.ctx, ast.Load) else attributes).add(node.attr)
        self.assertEqual(methods & attributes, set())
        known = methods | attributes | set(dir(list)) | set(dir(dict)) | set(dir(str)) | set(dir(set))
        self.assertEqual(read - known, set())

    def test_names(self):
        for path in files():
            tree = ast.parse(path.read_text())
            taken = {node.name for node in ast.walk(tree) if isinstance(node, ast.ClassDef)} | set(dir(builtins))
            for node in ast.walk(tree):
                if isinstance(node, ast.ImportFrom):
                    taken.update(name.asname or name.name for name in node.names)
            for node in ast.walk(tree):
                with self.subTest(name=path.name, line=getattr(node, "lineno", 0)):
                    if isinstance(node, ast.arg):
                        self.assertNotIn(node.arg, taken)
                        self.assertFalse(node.arg.startswith("_"))
                    if isinstance(node, ast.Name) and not isinstance(node.ctx, ast.Load):
                        self.assertNotIn(node.id, taken)
                        self.assertFalse(node.id.startswith("_"))
                    if isinstance(node, ast.Name) and isinstance(node.ctx, ast.Load) and node.id in dir(builtins):
                        self.assertIn(node.id, ALLOWED_BUILTINS)

    def test_signs(self):
        for path in files():
            for node in ast.walk(ast.parse(path.read_text())):
                with self.subTest(name=path.name, line=getattr(node, "lineno", 0)):
                    self.assertNotIsInstance(node, (ast.Div, ast.Global, ast.AsyncFunctionDef, ast.Yield))
                    if isinstance(node, ast.Compare):
                        for sign, right in zip(node.ops, node.comparators):
                            if isinstance(sign, (ast.Is, ast.IsNot)):
                                self.assertTrue(isinstance(right, ast.Constant) and right.value in (None, True, False))
                    if isinstance(node, ast.Constant):
                        self.assertNotIsInstance(node.value, (float, complex))
                        self.assertFalse(isinstance(node.value, str) and "%" in node.value)

    def test_methods_of_builtin_values(self):
        known = ALLOWED_METHODS | own_names(ast.FunctionDef)
        for path in files():
            for node, parent in nodes_with_parents(path):
                if isinstance(node, ast.Call) and isinstance(node.func, ast.Attribute):
                    with self.subTest(name=path.name, line=node.lineno):
                        self.assertIn(node.func.attr, known)
                # A method is called where it stands, and never passed on.
                if isinstance(node, ast.Attribute) and node.attr in ALLOWED_METHODS:
                    self.assertTrue(isinstance(parent, ast.Call) and parent.func is node, (path.name, node.lineno))

    def test_iterated_at_once(self):
        for path in files():
            for node, parent in nodes_with_parents(path):
                with self.subTest(name=path.name, line=getattr(node, "lineno", 0)):
                    if called(node) in ("zip", "enumerate", "reversed", "range", "items", "keys", "values"):
                        looped = isinstance(parent, (ast.For, ast.comprehension)) and parent.iter is node
                        self.assertTrue(looped or called(parent) in TAKERS | {"enumerate", "zip", "join"})
                    if isinstance(node, ast.GeneratorExp):
                        self.assertIn(called(parent), TAKERS | {"join"})

    def test_keywords_of_builtins(self):
        own = own_names((ast.FunctionDef, ast.ClassDef))
        for path in files():
            for node, parent in nodes_with_parents(path):
                if isinstance(node, ast.Call) and called(node) not in own:
                    told = {keyword.arg for keyword in node.keywords}
                    with self.subTest(name=path.name, line=node.lineno):
                        self.assertLessEqual(told, KEYWORDS.get(called(node), set()))

    def test_no_sets_but_on_the_spot_no_annotations_no_decorators(self):
        for path in files():
            for node, parent in nodes_with_parents(path):
                with self.subTest(name=path.name, line=getattr(node, "lineno", 0)):
                    self.assertNotIsInstance(node, (ast.AnnAssign, ast.Set))
                    if isinstance(node, ast.SetComp) or called(node) == "set":
                        self.assertIn(called(parent), ("sorted", "len"))
                    if isinstance(node, ast.FunctionDef):
                        self.assertEqual((node.decorator_list, node.returns), ([], None))
                    if isinstance(node, ast.arg):
                        self.assertIsNone(node.annotation)

    def test_raised_on_the_spot_and_caught_by_name(self):
        refusals = {node.name for node in ast.walk(ast.parse((PACKAGE / "errors.py").read_text()))
                    if isinstance(node, ast.ClassDef)}
        for path in files():
            for node, parent in nodes_with_parents(path):
                with self.subTest(name=path.name, line=getattr(node, "lineno", 0)):
                    if isinstance(node, ast.Raise):
                        self.assertIn(called(node.exc), refusals)
                    if isinstance(node, ast.ExceptHandler):
                        self.assertIn(node.type.id, refusals)

    def test_module_level(self):
        for path in files():
            names = []
            for node in ast.parse(path.read_text()).body:
                with self.subTest(name=path.name, line=node.lineno):
                    docstring = isinstance(node, ast.Expr) and isinstance(node.value, ast.Constant)
                    self.assertTrue(docstring or isinstance(node, (ast.ImportFrom, ast.FunctionDef, ast.ClassDef, ast.Assign)))
                if isinstance(node, ast.ImportFrom):
                    names += [name.asname or name.name for name in node.names]
                if isinstance(node, (ast.FunctionDef, ast.ClassDef)):
                    names.append(node.name)
                if isinstance(node, ast.Assign):
                    names += [target.id for target in node.targets]
            self.assertEqual(len(names), len(set(names)), path.name)

    def test_imports_name_the_file_that_defines_the_name(self):
        for path in files():
            for node in ast.parse(path.read_text()).body:
                if isinstance(node, ast.ImportFrom):
                    source = ast.parse((PACKAGE / (node.module.partition(".")[2] + ".py")).read_text())
                    defined = {part.name for part in source.body if isinstance(part, (ast.FunctionDef, ast.ClassDef))}
                    for part in source.body:
                        if isinstance(part, ast.Assign):
                            defined.update(target.id for target in part.targets)
                    with self.subTest(name=path.name, line=node.lineno):
                        self.assertLessEqual({name.name for name in node.names}, defined)

    def test_no_two_files_import_from_each_other(self):
        imports = {}
        for path in files():
            nodes = [node for node in ast.walk(ast.parse(path.read_text())) if isinstance(node, ast.ImportFrom)]
            imports[path.stem] = [node.module.partition(".")[2] for node in nodes]
        while imports:
            free = [name for name in imports if not any(other in imports for other in imports[name])]
            self.assertTrue(free, imports)
            for name in free:
                del imports[name]


if __name__ == "__main__":
    unittest.main()
