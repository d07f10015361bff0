"""Some rules of ../shared/LANGUAGE.md, by no means all: sizes, signs, words, imports, names, methods."""

import ast
import builtins
import pathlib
import re
import unittest

PACKAGE = pathlib.Path(__file__).resolve().parent.parent / "facehouse"
FILES = sorted(PACKAGE.rglob("*.py"))

# L17: words that stand nowhere, and those that stand in no longer word either.
WORDS = re.compile(
    r"\b(type|typing|typing_extensions|enum|Enum|IntEnum|StrEnum|Flag|IntFlag|Generic|Protocol|ABC|ABCMeta"
    r"|namedtuple|NamedTuple|TypedDict|TYPE_CHECKING|abstractmethod)\b|dataclass|overload|contextmanager"
)
# L8, without chr (L27) and print (L9).
BUILTINS = (
    "len range enumerate zip min max sum abs sorted reversed int str bool bytes list tuple dict set frozenset"
    " isinstance ord repr any all divmod iter next super property staticmethod classmethod NotImplemented Exception"
    " ValueError TypeError KeyError IndexError LookupError ZeroDivisionError ArithmeticError OverflowError"
    " RuntimeError NotImplementedError AttributeError StopIteration"
).split()
METHODS = (
    "append clear copy count endswith extend find get index insert isalnum isalpha isdigit islower isspace isupper"
    " items join keys ljust lower lstrip partition pop remove replace reverse rfind rjust rpartition rsplit rstrip"
    " setdefault split splitlines startswith strip update upper values zfill bit_length"
).split()
FUNCTIONS = (ast.FunctionDef, ast.AsyncFunctionDef)
NOT_ALLOWED = (
    ast.Global, ast.AsyncFunctionDef, ast.AsyncFor, ast.AsyncWith, ast.Await, ast.Div, ast.MatMult, ast.Import,
    ast.MatchClass, ast.MatchMapping,
)


def parsed():
    """Each file's name, text and tree."""
    texts = [(path.name, path.read_text(encoding="utf-8")) for path in FILES]
    return [(name, text, ast.parse(text)) for name, text in texts]


def bound_names(tree):
    """All names that a file binds, but those of its imports."""
    for node in ast.walk(tree):
        if isinstance(node, ast.Name) and isinstance(node.ctx, ast.Store):
            yield node.id
        elif isinstance(node, ast.arg):
            yield node.arg
        elif isinstance(node, FUNCTIONS + (ast.ClassDef,)):
            yield node.name
        elif isinstance(node, ast.Attribute) and isinstance(node.ctx, ast.Store):
            yield node.attr


class LanguageTest(unittest.TestCase):
    def test_the_package_has_files_and_nothing_else(self):
        self.assertIn(PACKAGE / "__init__.py", FILES)
        others = [path for path in PACKAGE.iterdir() if path not in FILES and path.name != "__pycache__"]
        self.assertEqual(others, [])

    def test_sizes(self):
        for file, text, tree in parsed():
            rows = text.split("\n")
            self.assertLessEqual(len(rows) - 1, 400, file)
            self.assertLessEqual(max([len(row) for row in rows]), 120, file)
            for node in ast.walk(tree):
                if isinstance(node, FUNCTIONS):
                    self.assertLessEqual(node.end_lineno - node.lineno + 1, 40, (file, node.name))

    def test_signs_and_words(self):
        for file, text, tree in parsed():
            self.assertEqual([sign for sign in text if sign != "\n" and not " " <= sign <= "~"], [], file)
            self.assertIsNone(WORDS.search(text), file)
            for node in ast.walk(tree):
                if isinstance(node, ast.Constant) and isinstance(node.value, str):
                    self.assertNotIn("%", node.value, (file, node.lineno))

    def test_imports_stand_ahead_and_are_of_the_package(self):
        for file, _, tree in parsed():
            imports = [node for node in ast.walk(tree) if isinstance(node, ast.ImportFrom)]
            behind_docstring = tree.body[1:]
            self.assertEqual(behind_docstring[:len(imports)], imports, file)
            for node in imports:
                self.assertEqual(node.level, 0, file)
                self.assertTrue(node.module.startswith("facehouse."), (file, node.module))
                self.assertNotIn("*", [alias.name for alias in node.names], file)

    def test_nothing_outside_of_the_subset(self):
        for file, _, tree in parsed():
            for node in ast.walk(tree):
                self.assertNotIsInstance(node, NOT_ALLOWED, file)
                if isinstance(node, ast.Constant):
                    self.assertNotIsInstance(node.value, (float, complex), (file, node.lineno))

    def test_names(self):
        for file, _, tree in parsed():
            for node in ast.walk(tree):
                if isinstance(node, ast.Name) and node.id in dir(builtins):
                    self.assertIn(node.id, BUILTINS, (file, node.lineno))
            for name in bound_names(tree):
                if not (name.startswith("__") and name.endswith("__")):
                    self.assertRegex(name, r"\A[A-Za-z][A-Za-z0-9_]*\Z", file)

    def test_no_local_name_is_a_builtins_a_classes_or_an_imports(self):
        # L15, and that what is imported is used.
        for file, _, tree in parsed():
            taken = {alias.name for node in tree.body if isinstance(node, ast.ImportFrom) for alias in node.names}
            used = {node.id for node in ast.walk(tree) if isinstance(node, ast.Name) and isinstance(node.ctx, ast.Load)}
            self.assertEqual(taken - used, set(), file)
            taken |= {node.name for node in tree.body if isinstance(node, ast.ClassDef)} | set(dir(builtins))
            for node in ast.walk(tree):
                if isinstance(node, ast.Name) and isinstance(node.ctx, ast.Store):
                    self.assertNotIn(node.id, taken, (file, node.lineno))
                elif isinstance(node, ast.arg):
                    self.assertNotIn(node.arg, taken, (file, node.lineno))

    def test_imports_name_the_file_that_defines_the_name_and_run_in_no_ring(self):
        trees = {file.removesuffix(".py"): tree for file, _, tree in parsed()}
        below = {}
        for file, tree in trees.items():
            imports = [node for node in tree.body if isinstance(node, ast.ImportFrom)]
            below[file] = {node.module.removeprefix("facehouse.") for node in imports}
            for node in imports:
                defined = set()
                for part in trees[node.module.removeprefix("facehouse.")].body:
                    if isinstance(part, FUNCTIONS + (ast.ClassDef,)):
                        defined.add(part.name)
                    elif isinstance(part, ast.Assign):
                        defined.update([target.id for target in part.targets])
                self.assertLessEqual({alias.name for alias in node.names}, defined, file)
        while below:
            free = [file for file in below if not below[file] & set(below)]
            self.assertNotEqual(free, [], below)
            for file in free:
                del below[file]

    def test_is_stands_beside_none_and_truths_alone(self):
        for file, _, tree in parsed():
            for node in ast.walk(tree):
                if isinstance(node, ast.Compare):
                    for op, right in zip(node.ops, node.comparators):
                        if isinstance(op, (ast.Is, ast.IsNot)):
                            self.assertIsInstance(right, ast.Constant, (file, node.lineno))
                            self.assertIn(right.value, (None, True, False), (file, node.lineno))

    def test_methods(self):
        # L25, and the package's own.
        own = {node.name for _, _, tree in parsed() for node in ast.walk(tree) if isinstance(node, FUNCTIONS)}
        for file, _, tree in parsed():
            for node in ast.walk(tree):
                if isinstance(node, ast.Call) and isinstance(node.func, ast.Attribute):
                    self.assertIn(node.func.attr, METHODS + sorted(own), (file, node.lineno))

    def test_comprehensions_stand_in_functions(self):
        loops = (ast.ListComp, ast.DictComp, ast.SetComp, ast.GeneratorExp)
        for file, _, tree in parsed():
            for part in tree.body:
                if isinstance(part, ast.Assign):
                    self.assertEqual([node for node in ast.walk(part) if isinstance(node, loops)], [], file)

    def test_any_and_its_kin_take_lists(self):
        # L7: because Face has __eq__.
        for file, _, tree in parsed():
            for node in ast.walk(tree):
                if isinstance(node, ast.Call) and isinstance(node.func, ast.Name):
                    if node.func.id in ("any", "all", "min", "max", "sum", "sorted"):
                        self.assertNotIsInstance(node.args[0], ast.GeneratorExp, (file, node.lineno))


    def test_module_level(self):
        # L3 and L15: a docstring, imports, functions, classes, and names bound once to plain values.
        allowed = (ast.ImportFrom, ast.ClassDef, ast.FunctionDef, ast.Assign)
        plain = (ast.Constant, ast.Tuple, ast.List, ast.Dict, ast.BinOp, ast.Pow, ast.Load, ast.Name, ast.Store)
        for file, _, tree in parsed():
            self.assertIsNotNone(ast.get_docstring(tree), file)
            bound = []
            for part in tree.body[1:]:
                self.assertIsInstance(part, allowed, (file, part.lineno))
                if isinstance(part, ast.Assign):
                    for node in ast.walk(part.value):
                        self.assertIsInstance(node, plain, (file, part.lineno))
                    bound += [target.id for target in part.targets]
                elif isinstance(part, ast.ImportFrom):
                    bound += [alias.name for alias in part.names]
                else:
                    bound.append(part.name)
            self.assertEqual(len(bound), len(set(bound)), file)

    def test_no_name_is_a_method_and_an_attribute(self):
        # L18, and that each attribute that is read is assigned by a class.
        methods, assigned, read = set(), set(), set()
        for _, _, tree in parsed():
            for part in [node for node in ast.walk(tree) if isinstance(node, ast.ClassDef)]:
                methods |= {node.name for node in part.body if isinstance(node, FUNCTIONS)}
                assigned |= {node.attr for node in ast.walk(part) if isinstance(node, ast.Attribute) and isinstance(node.ctx, ast.Store)}
            called = {id(node.func) for node in ast.walk(tree) if isinstance(node, ast.Call)}
            read |= {node.attr for node in ast.walk(tree) if isinstance(node, ast.Attribute) and id(node) not in called}
        self.assertEqual(methods & assigned, set())
        self.assertEqual(read - assigned, set())

    def test_names_that_are_not_used(self):
        # L17, first and second list, and L26.
        barred = (
            "register mro elements open input version_info with_traceback add_note attrgetter breakpoint builtins compile"
            " copyright credits delattr dir eval exec exit gc getattr globals hasattr help id importlib license locals"
            " methodcaller os quit setattr type vars sys"
        ).split()
        for file, _, tree in parsed():
            for name in bound_names(tree):
                self.assertNotIn(name, barred, file)
            for node in ast.walk(tree):
                if isinstance(node, ast.Attribute) and isinstance(node.ctx, ast.Store):
                    self.assertFalse(hasattr(str, node.attr) or hasattr(dict, node.attr) or hasattr(list, node.attr), node.attr)
                    self.assertFalse(hasattr(int, node.attr) or hasattr(bytes, node.attr), node.attr)

    def test_what_is_iterated_at_once(self):
        # L23 and L24: the call stands behind in, or in a call of one of these.
        takers = {"list", "tuple", "dict", "sorted", "sum", "any", "all", "enumerate", "zip", "min", "max", "len"}
        for file, _, tree in parsed():
            allowed = set()
            for node in ast.walk(tree):
                if isinstance(node, (ast.For, ast.comprehension)):
                    allowed.add(id(node.iter))
                elif isinstance(node, ast.Call) and isinstance(node.func, ast.Name) and node.func.id in takers:
                    allowed |= {id(part) for part in node.args}
                elif isinstance(node, ast.Call) and isinstance(node.func, ast.Attribute) and node.func.attr == "join":
                    allowed |= {id(part) for part in node.args}
                elif isinstance(node, ast.Compare):
                    allowed |= {id(part) for part in node.comparators}
            for node in ast.walk(tree):
                if isinstance(node, ast.Call):
                    lazy = isinstance(node.func, ast.Name) and node.func.id in ("zip", "enumerate", "reversed", "range", "set")
                    lazy = lazy or (isinstance(node.func, ast.Attribute) and node.func.attr in ("items", "keys", "values"))
                    self.assertTrue(not lazy or id(node) in allowed, (file, node.lineno))
                self.assertNotIsInstance(node, (ast.Set, ast.SetComp, ast.GeneratorExp, ast.Lambda, ast.NamedExpr), file)

    def test_errors(self):
        # L19: only own errors are caught, and what is raised is made on the spot.
        own = {node.name for node in ast.parse((PACKAGE / "errors.py").read_text()).body if isinstance(node, ast.ClassDef)}
        for file, _, tree in parsed():
            for node in ast.walk(tree):
                if isinstance(node, ast.ExceptHandler):
                    self.assertIsInstance(node.type, ast.Name, (file, node.lineno))
                    self.assertIn(node.type.id, own, (file, node.lineno))
                elif isinstance(node, ast.Raise):
                    self.assertIsInstance(node.exc, ast.Call, (file, node.lineno))
                    self.assertIn(node.exc.func.id, own, (file, node.lineno))

    def test_powers_and_keywords_of_builtins(self):
        # L22, L25 and L27.
        for file, _, tree in parsed():
            for node in ast.walk(tree):
                if isinstance(node, ast.BinOp) and isinstance(node.op, ast.Pow):
                    self.assertIsInstance(node.right, ast.Constant, (file, node.lineno))
                if isinstance(node, ast.Call) and isinstance(node.func, ast.Name) and node.func.id in dir(builtins):
                    for keyword in node.keywords:
                        self.assertIn((node.func.id, keyword.arg), (("enumerate", "start"),), (file, node.lineno))
                if isinstance(node, ast.Call) and isinstance(node.func, ast.Attribute) and node.func.attr in METHODS:
                    self.assertEqual(node.keywords, [], (file, node.lineno))

    def test_what_a_loop_goes_over_is_not_changed_in_it(self):
        # L23, as far as names and attributes show it.
        changing = ("append", "clear", "extend", "insert", "pop", "remove", "reverse", "setdefault", "update")
        for file, _, tree in parsed():
            for loop in [node for node in ast.walk(tree) if isinstance(node, ast.For)]:
                over = ast.unparse(loop.iter)
                for node in [one for part in loop.body for one in ast.walk(part)]:
                    if isinstance(node, ast.Call) and isinstance(node.func, ast.Attribute) and node.func.attr in changing:
                        self.assertNotEqual(ast.unparse(node.func.value), over, (file, node.lineno))
                    if isinstance(node, ast.Subscript) and not isinstance(node.ctx, ast.Load):
                        self.assertNotEqual(ast.unparse(node.value), over, (file, node.lineno))


if __name__ == "__main__":
    unittest.main()
