"""Some rules of ../shared/LANGUAGE.md, by no means all: sizes, signs, words, imports, names, methods."""

import ast
import builtins
import pathlib
import re
import unittest

PACKAGE = pathlib.Path(__file__).resolve().parent.parent / "facehouse"
FILES = sorted(PACKAGE.rglob("*.py"))

# L17: words that stand nowhere, and those that stand in no longer word either.
WORDS = re.compile(
    r"\b(type|typing|typing_extensions|enum|Enum|IntEnum|StrEnum|Flag|IntFlag|Generic|Protocol|ABC|ABCMeta"
    r"|namedtuple|NamedTuple|TypedDict|TYPE_CHECKING|abstractmethod)\b|dataclass|overload|contextmanager"
)
# L8, without chr (L27) and print (L9).
BUILTINS = (
    "len range enumerate zip min max sum abs sorted reversed int str bool bytes list tuple dict set frozenset"
    " isinstance ord repr any all divmod iter next super property staticmethod classmethod NotImplemented Exception"
    " ValueError TypeError KeyError IndexError LookupError ZeroDivisionError ArithmeticError OverflowError"
    " RuntimeError NotImplementedError AttributeError StopIteration"
).split()
METHODS = (
    "append clear copy count endswith extend find get index insert isalnum isalpha isdigit islower isspace isupper"
    " items join keys ljust lower lstrip partition pop remove replace reverse rfind rjust rpartition rsplit rstrip"
    " setdefault split splitlines startswith strip update upper values zfill bit_length"
).split()
FUNCTIONS = (ast.FunctionDef, ast.AsyncFunctionDef)
NOT_ALLOWED = (
    ast.Global, ast.AsyncFunctionDef, ast.AsyncFor, ast.AsyncWith, ast.Await, ast.Div, ast.MatMult, ast.Import,
    ast.MatchClass, ast.MatchMapping,
)


def parsed():
    """Each file's name, text and tree."""
    texts = [(path.name, path.read_text(encoding="utf-8")) for path in FILES]
    return [(name, text, ast.parse(text)) for name, text in texts]


def bound_names(tree):
    """All names that a file binds, but those of its imports."""
    for node in ast.walk(tree):
        if isinstance(node, ast.Name) and isinstance(node.ctx, ast.Store):
            yield node.id
        elif isinstance(node, ast.arg):
            yield node.arg
        elif isinstance(node, FUNCTIONS + (ast.ClassDef,)):
            yield node.name
        elif isinstance(node, ast.Attribute) and isinstance(node.ctx, ast.Store):
            yield node.attr


class LanguageTest(unittest.TestCase):
    def test_the_package_has_files_and_nothing_else(self):
        self.assertIn(PACKAGE / "__init__.py", FILES)
        others = [path for path in PACKAGE.iterdir() if path not in FILES and path.name != "__pycache__"]
        self.assertEqual(others, [])

    def test_sizes(self):
        for file, text, tree in parsed():
            rows = text.split("\n")
            self.assertLessEqual(len(rows) - 1, 400, file)
            self.assertLessEqual(max([len(row) for row in rows]), 120, file)
            for node in ast.walk(tree):
                if isinstance(node, FUNCTIONS):
                    self.assertLessEqual(node.end_lineno - node.lineno + 1, 40, (file, node.name))

    def test_signs_and_words(self):
        for file, text, tree in parsed():
            self.assertEqual([sign for sign in text if sign != "\n" and not " " <= sign <= "~"], [], file)
            self.assertIsNone(WORDS.search(text), file)
            for node in ast.walk(tree):
                if isinstance(node, ast.Constant) and isinstance(node.value, str):
                    self.assertNotIn("%", node.value, (file, node.lineno))

    def test_imports_stand_ahead_and_are_of_the_package(self):
        for file, _, tree in parsed():
            imports = [node for node in ast.walk(tree) if isinstance(node, ast.ImportFrom)]
            behind_docstring = tree.body[1:]
            self.assertEqual(behind_docstring[:len(imports)], imports, file)
            for node in imports:
                self.assertEqual(node.level, 0, file)
                self.assertTrue(node.module.startswith("facehouse."), (file, node.module))
                self.assertNotIn("*", [alias.name for alias in node.names], file)

    def test_nothing_outside_of_the_subset(self):
        for file, _, tree in parsed():
            for node in ast.walk(tree):
                self.assertNotIsInstance(node, NOT_ALLOWED, file)
                if isinstance(node, ast.Constant):
                    self.assertNotIsInstance(node.value, (float, complex), (file, node.lineno))

    def test_names(self):
        for file, _, tree in parsed():
            for node in ast.walk(tree):
                if isinstance(node, ast.Name) and node.id in dir(builtins):
                    self.assertIn(node.id, BUILTINS, (file, node.lineno))
            for name in bound_names(tree):
                if not (name.startswith("__") and name.endswith("__")):
                    self.assertRegex(name, r"\A[A-Za-z][A-Za-z0-9_]*\Z", file)

    def test_no_local_name_is_a_builtins_a_classes_or_an_imports(self):
        # L15, and that what is imported is used.
        for file, _, tree in parsed():
            taken = {alias.name for node in tree.body if isinstance(node, ast.ImportFrom) for alias in node.names}
            used = {node.id for node in ast.walk(tree) if isinstance(node, ast.Name) and isinstance(node.ctx, ast.Load)}
            self.assertEqual(taken - used, set(), file)
            taken |= {node.name for node in tree.body if isinstance(node, ast.ClassDef)} | set(dir(builtins))
            for node in ast.walk(tree):
                if isinstance(node, ast.Name) and isinstance(node.ctx, ast.Store):
                    self.assertNotIn(node.id, taken, (file, node.lineno))
                elif isinstance(node, ast.arg):
                    self.assertNotIn(node.arg, taken, (file, node.lineno))

    def test_imports_name_the_file_that_defines_the_name_and_run_in_no_ring(self):
        trees = {file.removesuffix(".py"): tree for file, _, tree in parsed()}
        below = {}
        for file, tree in trees.items():
            imports = [node for node in tree.body if isinstance(node, ast.ImportFrom)]
            below[file] = {node.module.removeprefix("facehouse.") for node in imports}
            for node in imports:
                defined = set()
                for part in trees[node.module.removeprefix("facehouse.")].body:
                    if isinstance(part, FUNCTIONS + (ast.ClassDef,)):
                        defined.add(part.name)
                    elif isinstance(part, ast.Assign):
                        defined.update([target.id for target in part.targets])
                self.assertLessEqual({alias.name for alias in node.names}, defined, file)
        while below:
            free = [file for file in below if not below[file] & set(below)]
            self.assertNotEqual(free, [], below)
            for file in free:
                del below[file]

    def test_is_stands_beside_none_and_truths_alone(self):
        for file, _, tree in parsed():
            for node in ast.walk(tree):
                if isinstance(node, ast.Compare):
                    for op, right in zip(node.ops, node.comparators):
                        if isinstance(op, (ast.Is, ast.IsNot)):
                            self.assertIsInstance(right, ast.Constant, (file, node.lineno))
                            self.assertIn(right.value, (None, True, False), (file, node.lineno))

    def test_methods(self):
        # L25, and the package's own.
        own = {node.name for _, _, tree in parsed() for node in ast.walk(tree) if isinstance(node, FUNCTIONS)}
        for file, _, tree in parsed():
            for node in ast.walk(tree):
                if isinstance(node, ast.Call) and isinstance(node.func, ast.Attribute):
                    self.assertIn(node.func.attr, METHODS + sorted(own), (file, node.lineno))

    def test_comprehensions_stand_in_functions(self):
        loops = (ast.ListComp, ast.DictComp, ast.SetComp, ast.GeneratorExp)
        for file, _, tree in parsed():
            for part in tree.body:
                if isinstance(part, ast.Assign):
                    self.assertEqual([node for node in ast.walk(part) if isinstance(node, loops)], [], file)

    def test_any_and_its_kin_take_lists(self):
        # L7: because Face has __eq__.
        for file, _, tree in parsed():
            for node in ast.walk(tree):
                if isinstance(node, ast.Call) and isinstance(node.func, ast.Name):
                    if node.func.id in ("any", "all", "min", "max", "sum", "sorted"):
                        self.assertNotIsInstance(node.args[0], ast.GeneratorExp, (file, node.lineno))


if __name__ == "__main__":
    unittest.main()
