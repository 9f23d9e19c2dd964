"""Those rules of the language that are easily broken and easily seen."""

import ast
import builtins
import pathlib
import re
import unittest

import tokenfold

FOLDER = pathlib.Path(tokenfold.__file__).parent
FILES = sorted(FOLDER.glob("**/*.py"))
CALLED = """len range enumerate zip min max sum abs sorted reversed int str bool list tuple dict set isinstance ord repr any
all divmod super""".split()
ERRORS = """Exception ValueError TypeError KeyError IndexError LookupError ZeroDivisionError ArithmeticError OverflowError
RuntimeError NotImplementedError NotImplemented""".split()
METHODS = """append clear copy count endswith extend find get index insert isalnum isalpha isdigit islower isspace isupper
items join keys ljust lower lstrip partition pop remove replace reverse rfind rjust rpartition rsplit rstrip setdefault
split splitlines startswith strip update upper values zfill bit_length sort add discard""".split()
BARRED = """type typing enum Enum Generic Protocol ABC namedtuple NamedTuple TypedDict TYPE_CHECKING abstractmethod
Flag IntFlag IntEnum StrEnum""".split()
BARRED_NAMES = """register mro elements open input law version_info with_traceback add_note""".split()
LIBRARY = {"heapq", "math", "itertools", "collections"}


def tree_of(path):
    return ast.parse(path.read_text())


def nodes(path, *kinds):
    return [node for node in ast.walk(tree_of(path)) if isinstance(node, kinds)]


def bound_names(path):
    """All names that a file gives to something, but for attributes."""
    found = [node.id for node in nodes(path, ast.Name) if isinstance(node.ctx, ast.Store)]
    found += [node.arg for node in nodes(path, ast.arg)]
    found += [node.name for node in nodes(path, ast.FunctionDef, ast.ClassDef)]
    return [name for name in found if not name.startswith("__")]


class Files(unittest.TestCase):

    def test_the_folder_contains_nothing_else(self):
        for path in FOLDER.iterdir():
            if path.name != "__pycache__":
                self.assertRegex(path.name, r"^[a-z_]+\.py$")
        self.assertTrue((FOLDER / "__init__.py").is_file())

    def test_characters_and_sizes(self):
        for path in FILES:
            text = path.read_text()
            self.assertIsNone(re.search("[^ -~\n]", text), path)
            self.assertLessEqual(len(text.splitlines()), 399, path)
            self.assertLessEqual(max(len(row) for row in text.splitlines()), 120, path)
            for node in nodes(path, ast.FunctionDef):
                self.assertLessEqual(node.end_lineno - node.lineno + 1, 40, node.name)

    def test_barred_words(self):
        for path in FILES:
            for word in BARRED:
                self.assertIsNone(re.search(rf"\b{word}\b", path.read_text()), (path, word))

    def test_barred_names(self):
        for path in FILES:
            named = set(bound_names(path)) | {node.attr for node in nodes(path, ast.Attribute)}
            named |= {node.arg for node in nodes(path, ast.keyword)}
            self.assertEqual(named & set(BARRED_NAMES), set(), path)


class Imports(unittest.TestCase):

    def test_from_the_files_that_define(self):
        for path in FILES:
            self.assertEqual(nodes(path, ast.Import), [])
            for node in nodes(path, ast.ImportFrom):
                if node.module in LIBRARY:
                    continue
                folder, name = node.module.split(".")
                self.assertEqual((node.level, folder), (0, "tokenfold"))
                body = tree_of(FOLDER / f"{name}.py").body
                defined = [row.name for row in body if isinstance(row, (ast.FunctionDef, ast.ClassDef))]
                defined += [row.targets[0].id for row in body if isinstance(row, ast.Assign)]
                self.assertEqual({alias.name for alias in node.names} - set(defined), set(), path)

    def test_no_circles(self):
        imported = {path.stem: {node.module.split(".")[1] for node in nodes(path, ast.ImportFrom)
                                if node.module not in LIBRARY} for path in FILES}
        while imported:
            free = [name for name, others in imported.items() if not others & set(imported)]
            self.assertNotEqual(free, [], imported)
            for name in free:
                del imported[name]


class Names(unittest.TestCase):

    def test_no_builtins_name_is_given_a_meaning(self):
        for path in FILES:
            taken = [name for name in bound_names(path) if hasattr(builtins, name)]
            self.assertEqual(taken, [], path)

    def test_no_local_name_is_an_imports(self):
        for path in FILES:
            imported = {alias.name for node in nodes(path, ast.ImportFrom) for alias in node.names}
            self.assertEqual(imported & set(bound_names(path)), set(), path)

    def test_builtins_that_are_called(self):
        for path in FILES:
            used = {node.id for node in nodes(path, ast.Name) if hasattr(builtins, node.id)}
            self.assertEqual(used - set(CALLED) - set(ERRORS), set(), path)

    def test_methods_of_builtin_values(self):
        own = {node.name for path in FILES for node in nodes(path, ast.FunctionDef)}
        for path in FILES:
            called = {node.func.attr for node in nodes(path, ast.Call) if isinstance(node.func, ast.Attribute)}
            self.assertEqual(called - own - set(METHODS), set(), path)


class Statements(unittest.TestCase):

    def test_module_level(self):
        kinds = (ast.ImportFrom, ast.FunctionDef, ast.ClassDef, ast.Assign, ast.Expr)
        for path in FILES:
            for row in tree_of(path).body:
                self.assertIsInstance(row, kinds)
                if isinstance(row, ast.Expr):
                    self.assertIsInstance(row.value, ast.Constant)

    def test_none_that_is_barred(self):
        barred = (ast.Global, ast.Div, ast.AsyncFunctionDef, ast.Await)
        for path in FILES:
            self.assertEqual(nodes(path, *barred), [], path)
            for node in nodes(path, ast.FunctionDef):
                self.assertEqual(node.decorator_list, [], node.name)

    def test_no_generators(self):
        """Where a class has __eq__, all, any, sum and the like take lists."""
        for path in FILES:
            self.assertEqual(nodes(path, ast.GeneratorExp, ast.Yield, ast.YieldFrom), [], path)

    def test_handlers_name_own_errors(self):
        own = {node.name for node in nodes(FOLDER / "errors.py", ast.ClassDef)}
        for path in FILES:
            for node in nodes(path, ast.ExceptHandler):
                self.assertIsInstance(node.type, ast.Name)
                self.assertIn(node.type.id, own)

    def test_lists_are_sorted_anew(self):
        """Where a class has __eq__ or __len__, no list is sorted by its method."""
        for path in FILES:
            self.assertNotIn("sort", {node.attr for node in nodes(path, ast.Attribute)}, path)

    def test_constants(self):
        for path in FILES:
            for node in nodes(path, ast.Constant):
                self.assertNotIsInstance(node.value, (float, complex))
                if isinstance(node.value, str):
                    self.assertNotIn(chr(37), node.value)

    def test_is_asks_for_none_true_false(self):
        for path in FILES:
            for node in nodes(path, ast.Compare):
                if any(isinstance(sign, (ast.Is, ast.IsNot)) for sign in node.ops):
                    self.assertIsInstance(node.comparators[-1], ast.Constant)


if __name__ == "__main__":
    unittest.main()
