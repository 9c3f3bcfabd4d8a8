"""The form of the package's code: the rules of LANGUAGE.md that can be seen word by word."""

import ast
import pathlib
import re
import unittest

PACKAGE = pathlib.Path(__file__).resolve().parent.parent / "deepstands"
FILES = sorted(PACKAGE.rglob("*.py"))
LIBRARY = {"heapq", "math", "itertools", "collections"}
BUILTINS = set(
    "len range enumerate zip min max sum abs sorted reversed int str bool list tuple dict set frozenset isinstance ord"
    " repr any all divmod pow getattr hasattr setattr Exception ValueError TypeError KeyError IndexError LookupError"
    " ZeroDivisionError ArithmeticError OverflowError RuntimeError NotImplementedError AttributeError StopIteration"
    " NotImplemented iter next super property staticmethod classmethod bytes".split()
)
METHODS = set(
    "append clear copy count endswith extend find get index insert isalnum isalpha isdigit islower isspace isupper"
    " items join keys ljust lower lstrip partition pop remove replace reverse rfind rjust rpartition rsplit rstrip"
    " setdefault split splitlines startswith strip update upper values zfill bit_length add discard isascii isidentifier"
    " removeprefix removesuffix isdecimal isprintable translate".split()
)
NEVER = set("register mro elements open input law version_info with_traceback add_note".split())
NOT_IN_FILES = (
    "typing typing_extensions enum Enum IntEnum StrEnum Flag IntFlag Generic Protocol ABC ABCMeta namedtuple NamedTuple"
    " TypedDict TYPE_CHECKING abstractmethod dataclass overload contextmanager"
).split()
MODULE_LEVEL = (ast.Import, ast.ImportFrom, ast.FunctionDef, ast.ClassDef, ast.Assign, ast.Expr)
BARRED = (
    ast.Global, ast.AsyncFunctionDef, ast.AsyncFor, ast.AsyncWith, ast.Await, ast.TypeAlias
    if hasattr(ast, "TypeAlias") else ast.Global,
)


def names_bound(tree):
    """Every name that a file gives to something."""
    for node in ast.walk(tree):
        if isinstance(node, ast.Name) and isinstance(node.ctx, ast.Store):
            yield node.id
        elif isinstance(node, ast.arg):
            yield node.arg
        elif isinstance(node, (ast.FunctionDef, ast.ClassDef)):
            yield node.name


class TestLanguage(unittest.TestCase):
    def each(self):
        self.assertGreater(len(FILES), 1)
        for path in FILES:
            text = path.read_text(encoding="utf-8")
            with self.subTest(file=path.name):
                yield path, text, ast.parse(text)

    def test_the_folder_has_nothing_else(self):
        for path in PACKAGE.rglob("*"):
            if "__pycache__" not in path.parts:
                self.assertIn(path, FILES)
                self.assertRegex(path.name, r"^[a-z0-9_]+\.py$")

    def test_sizes_and_characters(self):
        for _, text, tree in self.each():
            lines = text.split("\n")
            self.assertLessEqual(len(lines) - 1, 399)
            self.assertTrue(text.endswith("\n"))
            for line in lines:
                self.assertLessEqual(len(line), 120)
                self.assertTrue(all(" " <= sign <= "~" for sign in line), line)
            for node in ast.walk(tree):
                if isinstance(node, ast.FunctionDef):
                    self.assertLessEqual(node.end_lineno - node.lineno + 1, 40, node.name)

    def test_imports(self):
        for path, _, tree in self.each():
            for node in ast.walk(tree):
                self.assertFalse(isinstance(node, ast.Import), path)
                if isinstance(node, ast.ImportFrom):
                    self.assertIn(node, tree.body)
                    self.assertEqual(node.level, 0)
                    if node.module in LIBRARY:
                        continue
                    self.assertTrue(node.module.startswith("deepstands."), node.module)
                    source = ast.parse((PACKAGE / (node.module.split(".")[1] + ".py")).read_text(encoding="utf-8"))
                    there = [getattr(x, "name", None) or x.targets[0].id for x in source.body
                             if isinstance(x, (ast.FunctionDef, ast.ClassDef, ast.Assign))]
                    for alias in node.names:
                        self.assertIsNone(alias.asname)
                        self.assertIn(alias.name, there)

    def test_module_level(self):
        for _, _, tree in self.each():
            bound, barred = [], []
            for node in tree.body:
                self.assertIsInstance(node, MODULE_LEVEL)
                if isinstance(node, ast.Expr):
                    self.assertIsInstance(node.value.value, str)
                elif isinstance(node, ast.ImportFrom):
                    bound += [alias.name for alias in node.names]
                    barred += [alias.name for alias in node.names]
                elif isinstance(node, ast.Assign):
                    self.assertEqual(len(node.targets), 1)
                    bound.append(node.targets[0].id)
                else:
                    bound.append(node.name)
                    barred += [node.name] * isinstance(node, ast.ClassDef)
            self.assertEqual(len(bound), len(set(bound)))
            inner = [node.arg for node in ast.walk(tree) if isinstance(node, ast.arg)]
            inner += [node.id for x in tree.body if isinstance(x, (ast.FunctionDef, ast.ClassDef)) for node in ast.walk(x)
                      if isinstance(node, ast.Name) and isinstance(node.ctx, ast.Store)]
            self.assertEqual(set(inner) & set(barred), set())

    def test_statements_and_values(self):
        for _, _, tree in self.each():
            for node in ast.walk(tree):
                self.assertNotIsInstance(node, BARRED)
                self.assertFalse(isinstance(node, ast.Constant) and isinstance(node.value, (float, complex)))
                self.assertFalse(isinstance(node, ast.BinOp) and isinstance(node.op, (ast.Div, ast.MatMult)))
                if isinstance(node, ast.Constant) and isinstance(node.value, str):
                    self.assertNotIn("%", node.value)
                if isinstance(node, ast.Compare):
                    for op, right in zip(node.ops, node.comparators):
                        if isinstance(op, (ast.Is, ast.IsNot)):
                            self.assertIn(getattr(right, "value", 0), (None, True, False))

    def test_builtins(self):
        everything = set(dir(__builtins__) if not isinstance(__builtins__, dict) else __builtins__)
        for _, _, tree in self.each():
            bound = set(names_bound(tree))
            self.assertEqual(bound & everything, set())
            for node in ast.walk(tree):
                if isinstance(node, ast.Name) and node.id in everything:
                    self.assertIn(node.id, BUILTINS)

    def test_methods(self):
        own = {node.name for _, _, tree in self.each() for node in ast.walk(tree) if isinstance(node, ast.FunctionDef)}
        for _, _, tree in self.each():
            for node in ast.walk(tree):
                if isinstance(node, ast.Call) and isinstance(node.func, ast.Attribute):
                    self.assertIn(node.func.attr, METHODS | own | {"__init__"})

    def test_methods_are_called_where_they_stand(self):
        """L25: none is taken as a value, and called further down by another name."""
        own = {inner.name for _, _, tree in self.each() for node in ast.walk(tree) if isinstance(node, ast.ClassDef)
               for inner in node.body if isinstance(inner, ast.FunctionDef)}
        for path, _, tree in self.each():
            called = {id(node.func) for node in ast.walk(tree) if isinstance(node, ast.Call)}
            for node in ast.walk(tree):
                if isinstance(node, ast.Attribute) and node.attr in own | METHODS:
                    self.assertIn(id(node), called, (path.name, node.lineno, node.attr))

    def test_no_name_is_a_method_and_an_attribute(self):
        methods, attributes, read = set(), set(), set()
        for _, _, tree in self.each():
            for node in ast.walk(tree):
                if isinstance(node, ast.ClassDef):
                    methods |= {inner.name for inner in node.body if isinstance(inner, ast.FunctionDef)}
                elif isinstance(node, ast.Attribute):
                    (attributes if isinstance(node.ctx, ast.Store) else read).add(node.attr)
        self.assertEqual(methods & attributes, set())
        self.assertEqual(read - methods - attributes - METHODS, set())

    def test_classes_that_compare(self):
        """With __eq__ or __len__ in the package any, all and the like take lists, no generators."""
        for _, _, tree in self.each():
            for node in ast.walk(tree):
                self.assertNotIsInstance(node, (ast.GeneratorExp, ast.Yield))
                if isinstance(node, ast.FunctionDef) and node.name == "__len__":
                    self.assertEqual(node.body[-1].value.func.id, "len")

    def test_own_errors_alone_are_caught(self):
        own = {node.name for node in ast.parse((PACKAGE / "errors.py").read_text()).body
               if isinstance(node, ast.ClassDef)}
        for _, _, tree in self.each():
            for node in ast.walk(tree):
                if isinstance(node, ast.Try):
                    self.assertEqual(node.finalbody, [])
                    for handler in node.handlers:
                        self.assertIn(handler.type.id, own)

    def test_sets_and_stars(self):
        """Sets are not iterated over, and stand where they may; no star stands in one."""
        for _, _, tree in self.each():
            for node in ast.walk(tree):
                if isinstance(node, (ast.For, ast.comprehension)):
                    self.assertNotIsInstance(node.iter, (ast.Set, ast.SetComp))
                    self.assertNotEqual(getattr(getattr(node.iter, "func", None), "id", None), "set")
                if isinstance(node, ast.Set):
                    self.assertFalse(any(isinstance(part, ast.Starred) for part in node.elts))

    def test_no_file_imports_from_itself_over_others(self):
        needs = {}
        for path, _, tree in self.each():
            needs[path.stem] = {node.module.split(".")[1] for node in ast.walk(tree) if isinstance(node, ast.ImportFrom)}
        while needs:
            free = [name for name in needs if not needs[name] & set(needs)]
            self.assertTrue(free, needs)
            for name in free:
                del needs[name]

    def test_words(self):
        for _, text, tree in self.each():
            for word in NOT_IN_FILES:
                self.assertIsNone(re.search(rf"\b{word}\b", text), word)
            names = set(names_bound(tree)) | {node.attr for node in ast.walk(tree) if isinstance(node, ast.Attribute)}
            self.assertEqual(names & NEVER, set())
            for name in names:
                self.assertFalse(name.startswith("_wall"), name)
                if name.startswith("__"):
                    self.assertRegex(name, r"^__[a-z]+__$")
