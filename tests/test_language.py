"""Rules of LANGUAGE.md that can be seen at a glance; it is no full check of them."""

import ast
import builtins
import re
import unittest
from pathlib import Path

PACKAGE = Path(__file__).resolve().parent.parent / "nearlands"
FILES = sorted(PACKAGE.glob("*.py"))

BUILTINS = set((
    "len range enumerate zip min max sum abs sorted reversed int str bool bytes list tuple dict set frozenset "
    "isinstance ord repr any all divmod super property staticmethod classmethod Exception ValueError TypeError "
    "KeyError IndexError LookupError ZeroDivisionError ArithmeticError OverflowError RuntimeError "
    "NotImplementedError AttributeError StopIteration"
).split())
BARRED_WORDS = re.compile(
    r"\b(type|typing|typing_extensions|enum|Enum|IntEnum|StrEnum|Flag|IntFlag|Generic|Protocol|ABC|ABCMeta"
    r"|namedtuple|NamedTuple|TypedDict|TYPE_CHECKING|abstractmethod)\b|dataclass|overload|contextmanager"
)
# Methods of builtin values, of L25, that the package uses or may come to use.
METHODS = set((
    "append clear copy count endswith extend find get index insert isalnum isalpha isdigit islower isspace isupper "
    "items join keys ljust lower lstrip partition pop remove replace reverse rfind rjust rpartition rsplit rstrip "
    "setdefault split splitlines startswith strip update upper values zfill bit_length removeprefix removesuffix "
    "rindex isascii"
).split())
BARRED_NODES = (
    ast.Div, ast.NamedExpr, ast.Global, ast.AsyncFunctionDef, ast.AsyncFor, ast.AsyncWith, ast.Await, ast.Import,
)


def bound_names(tree):
    """Tell all names that a file binds, with those that its functions and classes bind."""
    for node in ast.walk(tree):
        if isinstance(node, ast.Name) and isinstance(node.ctx, ast.Store):
            yield node.id
        elif isinstance(node, (ast.FunctionDef, ast.ClassDef)):
            yield node.name
        elif isinstance(node, ast.arg):
            yield node.arg
        elif isinstance(node, ast.alias):
            yield node.asname or node.name


class LanguageTest(unittest.TestCase):
    def each_file(self):
        self.assertTrue(FILES)
        for path in FILES:
            with self.subTest(path.name):
                text = path.read_text(encoding="utf-8")
                yield text, ast.parse(text)

    def test_the_folder_holds_nothing_else(self):
        others = [path.name for path in PACKAGE.iterdir() if path.suffix != ".py" and path.name != "__pycache__"]
        self.assertEqual(others, [])

    def test_signs_words_and_sizes(self):
        for text, tree in self.each_file():
            self.assertRegex(text, r"\A[\n -~]*\Z")
            self.assertIsNone(BARRED_WORDS.search(text))
            self.assertLessEqual(len(text.splitlines()), 400)
            self.assertLessEqual(max(map(len, text.splitlines())), 120)
            for node in ast.walk(tree):
                if isinstance(node, ast.FunctionDef):
                    self.assertLessEqual(node.end_lineno - node.lineno + 1, 40, node.name)

    def test_imports(self):
        modules = {path.stem for path in FILES}
        for _, tree in self.each_file():
            for node in ast.walk(tree):
                if isinstance(node, ast.ImportFrom):
                    self.assertEqual(node.level, 0)
                    package, _, module = node.module.partition(".")
                    self.assertEqual(package, "nearlands")
                    self.assertIn(module, modules)

    def test_module_level(self):
        kinds = (ast.ImportFrom, ast.FunctionDef, ast.ClassDef, ast.Assign)
        for _, tree in self.each_file():
            self.assertTrue(ast.get_docstring(tree))
            for node in tree.body[1:]:
                self.assertIsInstance(node, kinds)

    def test_what_is_not_used(self):
        for _, tree in self.each_file():
            for node in ast.walk(tree):
                self.assertNotIsInstance(node, BARRED_NODES)
                if isinstance(node, ast.Constant):
                    self.assertNotIsInstance(node.value, (float, complex))
                    if isinstance(node.value, str):
                        self.assertNotIn("%", node.value)

    def test_methods(self):
        trees = [ast.parse(path.read_text(encoding="utf-8")) for path in FILES]
        nodes = [node for tree in trees for node in ast.walk(tree)]
        classes = [node for node in nodes if isinstance(node, ast.ClassDef)]
        own = {part.name for node in classes for part in node.body if isinstance(part, ast.FunctionDef)}
        stored = {node.attr for node in nodes if isinstance(node, ast.Attribute) and isinstance(node.ctx, ast.Store)}
        self.assertEqual(own & stored, set())
        for node in nodes:
            if isinstance(node, ast.Attribute) and isinstance(node.ctx, ast.Load):
                self.assertIn(node.attr, METHODS | own | stored)

    def test_keywords_are_few(self):
        for _, tree in self.each_file():
            for node in ast.walk(tree):
                if isinstance(node, ast.keyword):
                    self.assertIn(node.arg, ("key", "reverse", "default", "start"))

    def test_no_decorators_and_is_only_with_constants(self):
        for _, tree in self.each_file():
            for node in ast.walk(tree):
                if isinstance(node, (ast.FunctionDef, ast.ClassDef)):
                    self.assertEqual(node.decorator_list, [])
                if isinstance(node, ast.Compare):
                    for operator, right in zip(node.ops, node.comparators):
                        if isinstance(operator, (ast.Is, ast.IsNot)):
                            self.assertIsInstance(right, ast.Constant)

    def test_no_two_files_import_from_each_other(self):
        above = {}
        for path in FILES:
            tree = ast.parse(path.read_text(encoding="utf-8"))
            modules = [node.module for node in tree.body if isinstance(node, ast.ImportFrom)]
            above[path.stem] = {module.partition(".")[2] for module in modules}
        left = dict(above)
        while left:
            free = [name for name in left if not left[name] & set(left)]
            self.assertTrue(free, left)
            for name in free:
                del left[name]

    def test_names(self):
        for _, tree in self.each_file():
            bound = list(bound_names(tree))
            for name in bound:
                self.assertFalse(name.startswith("_") and name != "__init__", name)
                self.assertFalse(hasattr(builtins, name) and name != "__init__", name)
            for node in ast.walk(tree):
                if isinstance(node, ast.Name) and node.id not in bound:
                    self.assertIn(node.id, BUILTINS)

    def test_no_local_name_is_that_of_an_import(self):
        for _, tree in self.each_file():
            imported = [alias.name for node in tree.body if isinstance(node, ast.ImportFrom) for alias in node.names]
            for name in imported:
                self.assertEqual(list(bound_names(tree)).count(name), 1, name)


if __name__ == "__main__":
    unittest.main()
