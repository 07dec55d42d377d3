"""Some rules of the language, those that are plainly seen in the text of the package; not all of them."""

import ast
import builtins
import pathlib
import re
import unittest
import warnings

from test_interface import FUNCTIONS

PACKAGE = pathlib.Path(__file__).resolve().parent.parent / "waitedmeets"
FILES = sorted(PACKAGE.glob("*.py"))

BARRED_WORDS = re.compile(
    r"\b(type|typing|typing_extensions|enum|Enum|IntEnum|StrEnum|Flag|IntFlag|Generic|Protocol|ABC|ABCMeta|namedtuple"
    r"|NamedTuple|TypedDict|TYPE_CHECKING|abstractmethod)\b|dataclass|overload|contextmanager"
)
BUILTINS = set(
    "len range enumerate zip min max sum abs sorted reversed int str bool bytes list tuple dict set isinstance ord repr"
    " any all divmod iter next property staticmethod classmethod super Exception ValueError TypeError KeyError IndexError"
    " LookupError ZeroDivisionError ArithmeticError OverflowError RuntimeError NotImplementedError AttributeError"
    " StopIteration NotImplemented".split()
)


def trees():
    return [(path, ast.parse(path.read_text())) for path in FILES]


def nodes(sort):
    for path, tree in trees():
        for node in ast.walk(tree):
            if isinstance(node, sort):
                yield path, node


class Text(unittest.TestCase):
    def test_only_files_of_the_language(self):
        for path in PACKAGE.iterdir():
            if path.name != "__pycache__":
                self.assertRegex(path.name, r"\A[a-z0-9_]+\.py\Z")

    def test_sizes(self):
        for path in FILES:
            rows = path.read_text().splitlines()
            self.assertLessEqual(len(rows), 399, path.name)
            for row in rows:
                self.assertLessEqual(len(row), 120, (path.name, row))
        for path, node in nodes(ast.FunctionDef):
            self.assertLessEqual(node.end_lineno - node.lineno + 1, 40, (path.name, node.name))

    def test_signs_and_words(self):
        for path in FILES:
            text = path.read_text()
            self.assertRegex(text, r"\A[ -~\n]*\Z", path.name)
            self.assertIsNone(BARRED_WORDS.search(text), path.name)

    def test_strings(self):
        for path, node in nodes(ast.Constant):
            self.assertNotIsInstance(node.value, (float, complex), path.name)
            if isinstance(node.value, str):
                self.assertNotIn("%", node.value, path.name)

    def test_no_warnings(self):
        with warnings.catch_warnings():
            warnings.simplefilter("error")
            for path in FILES:
                compile(path.read_text(), path.name, "exec")


class Names(unittest.TestCase):
    def test_no_underscore_ahead(self):
        for path, node in nodes((ast.Name, ast.arg, ast.Attribute, ast.FunctionDef, ast.ClassDef)):
            name = getattr(node, "id", None) or getattr(node, "arg", None) or getattr(node, "attr", None) or node.name
            self.assertRegex(name, r"\A([A-Za-z]|__[a-z]+__\Z)", path.name)

    def test_builtins(self):
        for path, node in nodes(ast.Name):
            if hasattr(builtins, node.id):
                self.assertIn(node.id, BUILTINS, path.name)
                self.assertIsInstance(node.ctx, ast.Load, (path.name, node.id))

    def test_is_only_with_none_and_truths(self):
        for path, node in nodes(ast.Compare):
            for sign, right in zip(node.ops, node.comparators):
                if isinstance(sign, (ast.Is, ast.IsNot)):
                    self.assertIsInstance(right, ast.Constant, path.name)

    def test_no_generator_expressions_where_likeness_is_made(self):
        for path, node in nodes(ast.Call):
            if isinstance(node.func, ast.Name) and node.func.id in ("any", "all", "min", "max", "sum", "sorted"):
                for argument in node.args:
                    self.assertNotIsInstance(argument, ast.GeneratorExp, path.name)


class Classes(unittest.TestCase):
    def test_no_name_is_a_method_and_an_attribute(self):
        methods = {node.name for _, one in nodes(ast.ClassDef) for node in one.body if isinstance(node, ast.FunctionDef)}
        attributes = {node.attr for _, node in nodes(ast.Attribute) if isinstance(node.ctx, ast.Store)}
        self.assertEqual(methods & attributes, set())

    def test_attributes_that_are_read_are_assigned(self):
        stored = {node.attr for _, node in nodes(ast.Attribute) if isinstance(node.ctx, ast.Store)}
        for path, tree in trees():
            called = {id(node.func) for node in ast.walk(tree) if isinstance(node, ast.Call)}
            for node in ast.walk(tree):
                if isinstance(node, ast.Attribute) and isinstance(node.ctx, ast.Load) and id(node) not in called:
                    self.assertIn(node.attr, stored, path.name)

    def test_no_sort_in_place(self):
        self.assertNotIn("sort", {node.attr for _, node in nodes(ast.Attribute)})

    def test_every_len_is_told_by_len(self):
        for path, node in nodes(ast.FunctionDef):
            if node.name == "__len__":
                self.assertEqual(ast.unparse(node.body[-1])[:11], "return len(", path.name)


class Bindings(unittest.TestCase):
    def test_no_local_name_is_an_import_or_a_class(self):
        for path, tree in trees():
            barred = {name.name for node in tree.body if isinstance(node, ast.ImportFrom) for name in node.names}
            barred |= {node.name for node in tree.body if isinstance(node, ast.ClassDef)}
            for node in ast.walk(tree):
                if isinstance(node, ast.arg):
                    self.assertNotIn(node.arg, barred, path.name)
                if isinstance(node, ast.Name) and isinstance(node.ctx, ast.Store):
                    self.assertNotIn(node.id, barred, path.name)

    def test_what_a_loop_goes_over_is_not_changed_in_it(self):
        changing = {"append", "extend", "insert", "pop", "remove", "clear", "update", "setdefault", "reverse"}
        for path, node in nodes(ast.For):
            over = {ast.unparse(part) for part in ast.walk(node.iter) if isinstance(part, (ast.Name, ast.Attribute))}
            for part in (inner for row in node.body for inner in ast.walk(row)):
                if isinstance(part, ast.Attribute) and part.attr in changing:
                    self.assertNotIn(ast.unparse(part.value), over, (path.name, node.lineno))


class Helpers(unittest.TestCase):
    def test_each_function_stands_in_one_file_alone(self):
        names = [node.name for _, tree in trees() for node in tree.body if isinstance(node, ast.FunctionDef)]
        self.assertEqual(sorted(set(names)), sorted(names))

    def test_none_that_nothing_uses(self):
        """Each function that the interface doesn't list is called, or stands in a table, somewhere in the package."""
        used = {node.id for _, node in nodes(ast.Name) if isinstance(node.ctx, ast.Load)}
        listed = {name for functions in FUNCTIONS.values() for name in functions}
        for path, tree in trees():
            for node in tree.body:
                if isinstance(node, ast.FunctionDef) and node.name not in listed:
                    self.assertIn(node.name, used, path.name)


class Imports(unittest.TestCase):
    def wanted(self):
        """For each file the files that it imports from."""
        told = {path.stem: [] for path in FILES}
        for path, node in nodes((ast.Import, ast.ImportFrom)):
            self.assertIsInstance(node, ast.ImportFrom, path.name)
            self.assertRegex(node.module, r"\Awaitedmeets\.[a-z]+\Z", path.name)
            told[path.stem].append(node.module.partition(".")[2])
        return told

    def test_none_in_a_circle(self):
        left = self.wanted()
        while left:
            ready = [name for name in left if not any(other in left for other in left[name])]
            self.assertTrue(ready, left)
            for name in ready:
                del left[name]

    def test_from_the_file_that_defines_the_name(self):
        defined = {}
        for path, tree in trees():
            here = defined.setdefault(path.stem, set())
            for node in tree.body:
                if isinstance(node, (ast.FunctionDef, ast.ClassDef)):
                    here.add(node.name)
                if isinstance(node, ast.Assign):
                    here.add(node.targets[0].id)
        for path, node in nodes(ast.ImportFrom):
            for name in node.names:
                self.assertIn(name.name, defined[node.module.partition(".")[2]], path.name)


if __name__ == "__main__":
    unittest.main()
