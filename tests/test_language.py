"""Rules of LANGUAGE.md that can be seen by going through the files of the package."""

import ast
import builtins
import pathlib
import re
import unittest

PACKAGE = pathlib.Path(__file__).resolve().parent.parent / "lifehold"
FILES = sorted(PACKAGE.glob("**/*.py"))

GOOD_BUILTINS = set("""
    len range enumerate zip min max sum abs sorted reversed int str bool bytes list tuple dict set frozenset
    isinstance ord repr any all divmod iter next super property staticmethod classmethod object float
    Exception ValueError TypeError KeyError IndexError LookupError ZeroDivisionError ArithmeticError
    OverflowError RuntimeError NotImplementedError AttributeError StopIteration NotImplemented
""".split())
GOOD_METHODS = set("""
    append clear copy count endswith extend find get index insert isalnum isalpha isdigit islower isspace isupper
    items join keys ljust lower lstrip partition pop remove replace reverse rfind rjust rpartition rsplit rstrip
    setdefault split splitlines startswith strip update upper values zfill bit_length add discard
""".split())
GOOD_UNDERSCORES = set("""
    __init__ __eq__ __repr__ __str__ __len__ __enter__ __exit__ __call__ __iter__
""".split())
BARRED_WORDS = re.compile(
    r"\b(type|typing|typing_extensions|enum|Enum|IntEnum|StrEnum|Flag|IntFlag|Generic|Protocol|ABC|ABCMeta"
    r"|namedtuple|NamedTuple|TypedDict|TYPE_CHECKING|abstractmethod)\b|dataclass|overload|contextmanager"
)
# Beside an __eq__ a generator expression may stand in few places only, so none stands anywhere here.
BARRED_NODES = (
    ast.Global, ast.AsyncFunctionDef, ast.AsyncFor, ast.AsyncWith, ast.Await, ast.Div, ast.GeneratorExp, ast.Import,
)


def defined_names(tree):
    for node in ast.walk(tree):
        if isinstance(node, (ast.FunctionDef, ast.ClassDef)):
            yield node.name
        elif isinstance(node, ast.arg):
            yield node.arg
        elif isinstance(node, ast.Name) and isinstance(node.ctx, ast.Store):
            yield node.id


class TestLanguage(unittest.TestCase):
    def each(self):
        """The name, the text and the tree of each file."""
        texts = [(path.stem, path.read_text("ascii")) for path in FILES]
        return [(name, text, ast.parse(text)) for name, text in texts]

    def test_files(self):
        self.assertTrue((PACKAGE / "__init__.py").is_file())
        others = [path for path in PACKAGE.glob("**/*") if path not in FILES and "__pycache__" not in path.parts]
        self.assertEqual(others, [])

    def test_size_and_signs(self):
        for file, text, tree in self.each():
            lines = text.splitlines()
            self.assertLessEqual(len(lines), 399, file)
            self.assertLessEqual(max([len(line) for line in lines], default=0), 120, file)
            self.assertRegex(text, r"\A[ -~\n]*\Z")
            for node in ast.walk(tree):
                if isinstance(node, ast.FunctionDef):
                    self.assertLessEqual(node.end_lineno - node.lineno + 1, 40, (file, node.name))

    def test_words(self):
        for file, text, tree in self.each():
            self.assertIsNone(BARRED_WORDS.search(text), file)
            for node in ast.walk(tree):
                if isinstance(node, ast.Constant):
                    self.assertNotIsInstance(node.value, (float, complex))
                    self.assertNotIn("%", str(node.value))

    def test_statements_and_signs(self):
        for file, text, tree in self.each():
            for node in ast.walk(tree):
                self.assertNotIsInstance(node, BARRED_NODES, file)
                if isinstance(node, ast.Compare):
                    for sign, right in zip(node.ops, node.comparators):
                        if isinstance(sign, (ast.Is, ast.IsNot)):
                            self.assertIn(ast.unparse(right), ("None", "True", "False"), file)

    def test_imports(self):
        needs = {}
        for file, text, tree in self.each():
            needs[file] = []
            for node in ast.walk(tree):
                if isinstance(node, ast.ImportFrom):
                    self.assertIn(node, tree.body)
                    self.assertRegex(node.module, r"\Alifehold\.[a-z]+\Z")
                    self.assertNotIn("*", [name.name for name in node.names])
                    needs[file].append(node.module.split(".")[1])
        while needs:
            free = [name for name in needs if not any(need in needs for need in needs[name])]
            self.assertTrue(free, "files import one another")
            for name in free:
                del needs[name]

    def test_names(self):
        for file, text, tree in self.each():
            for name in defined_names(tree):
                self.assertTrue(name in GOOD_UNDERSCORES or not name.startswith("_"), (file, name))
                self.assertTrue(name in GOOD_UNDERSCORES or not hasattr(builtins, name), (file, name))
            for node in ast.walk(tree):
                if isinstance(node, ast.Name) and hasattr(builtins, node.id):
                    self.assertIn(node.id, GOOD_BUILTINS, file)

    def test_no_name_of_an_import_or_a_class_stands_for_something_else(self):
        for file, text, tree in self.each():
            taken = [node.name for node in tree.body if isinstance(node, ast.ClassDef)]
            for node in tree.body:
                if isinstance(node, ast.ImportFrom):
                    taken += [name.asname or name.name for name in node.names]
            self.assertEqual(sorted(taken), sorted(set(taken)), file)
            for function in ast.walk(tree):
                if isinstance(function, ast.FunctionDef):
                    self.assertEqual([name for name in defined_names(function) if name in taken], [], file)

    def test_lambdas(self):
        for file, text, tree in self.each():
            lines = [node.lineno for node in ast.walk(tree) if isinstance(node, ast.Lambda)]
            self.assertEqual(sorted(lines), sorted(set(lines)), file)

    def test_defaults_are_plain(self):
        for file, text, tree in self.each():
            for node in ast.walk(tree):
                if isinstance(node, ast.arguments):
                    for plain in node.defaults + [each for each in node.kw_defaults if each is not None]:
                        self.assertIsInstance(plain, ast.Constant, file)

    def test_methods(self):
        own = set(GOOD_UNDERSCORES)
        for file, text, tree in self.each():
            own.update(node.name for node in ast.walk(tree) if isinstance(node, ast.FunctionDef))
        for file, text, tree in self.each():
            for node in ast.walk(tree):
                if isinstance(node, ast.Call) and isinstance(node.func, ast.Attribute):
                    self.assertIn(node.func.attr, own | GOOD_METHODS, file)

    def test_no_name_is_a_method_and_an_attribute(self):
        methods, stored, loaded = set(), set(), set()
        for file, text, tree in self.each():
            for node in ast.walk(tree):
                if isinstance(node, ast.ClassDef):
                    methods.update(each.name for each in node.body if isinstance(each, ast.FunctionDef))
                elif isinstance(node, ast.Attribute) and isinstance(node.ctx, ast.Store):
                    stored.add(node.attr)
                elif isinstance(node, ast.Attribute):
                    loaded.add(node.attr)
        self.assertEqual(methods & stored, set())
        self.assertEqual(stored & GOOD_METHODS, set())
        self.assertEqual((methods - GOOD_UNDERSCORES) & GOOD_METHODS, set())
        self.assertEqual(loaded - stored - methods - GOOD_METHODS, set())

    def test_methods_that_change_nothing(self):
        for file, text, tree in self.each():
            for node in ast.walk(tree):
                if isinstance(node, ast.FunctionDef) and node.name in ("__eq__", "__repr__", "__str__", "__len__"):
                    self.assertIsInstance(node.body[-1], ast.Return, (file, node.name))
                    for each in ast.walk(node):
                        self.assertNotIsInstance(each, (ast.Assign, ast.AugAssign, ast.AnnAssign), (file, node.name))

    def test_module_level(self):
        """Nothing but a docstring, imports, functions, classes, and names of plain values, each bound once."""
        for file, text, tree in self.each():
            bound = []
            for node in tree.body:
                if isinstance(node, (ast.FunctionDef, ast.ClassDef)):
                    bound.append(node.name)
                elif isinstance(node, ast.ImportFrom):
                    bound += [name.asname or name.name for name in node.names]
                elif isinstance(node, ast.Assign):
                    self.assertEqual([target.__class__ for target in node.targets], [ast.Name], file)
                    bound.append(node.targets[0].id)
                else:
                    self.assertTrue(node is tree.body[0] and isinstance(node, ast.Expr), (file, node.lineno))
            self.assertEqual(sorted(bound), sorted(set(bound)), file)

    def test_raises_and_handlers(self):
        own = set()
        for file, text, tree in self.each():
            own.update(node.name for node in ast.walk(tree) if isinstance(node, ast.ClassDef))
        for file, text, tree in self.each():
            for node in ast.walk(tree):
                if isinstance(node, ast.Raise):
                    self.assertIsInstance(node.exc, ast.Call, (file, node.lineno))
                    self.assertIn(ast.unparse(node.exc.func), own, (file, node.lineno))
                elif isinstance(node, ast.ExceptHandler):
                    caught = node.type.elts if isinstance(node.type, ast.Tuple) else [node.type]
                    for each in caught:
                        self.assertIn(ast.unparse(each), own, (file, node.lineno))


if __name__ == "__main__":
    unittest.main()
