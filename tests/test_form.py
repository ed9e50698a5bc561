"""The form of the code, as far as it can be read off the files: L1, L2, L8, L10, L12, L14, L16, L17 and L18."""

import ast
import builtins
import pathlib
import re
import unittest

PACKAGE = pathlib.Path(__file__).resolve().parent.parent / "streakdays"
FILES = sorted(PACKAGE.glob("*.py"))
BUILTINS = {
    "len", "range", "enumerate", "zip", "min", "max", "sum", "abs", "sorted", "reversed", "int", "str", "bool", "list",
    "tuple", "dict", "set", "isinstance", "any", "all", "divmod", "ValueError",
}
BARRED = (
    "type typing typing_extensions enum Enum IntEnum StrEnum Flag IntFlag Generic Protocol ABC ABCMeta namedtuple "
    "NamedTuple TypedDict TYPE_CHECKING abstractmethod"
).split()


class FormTest(unittest.TestCase):
    def trees(self):
        return [(path.name, ast.parse(path.read_text())) for path in FILES]

    def test_only_plain_files(self):
        names = [path.name for path in PACKAGE.iterdir() if path.name != "__pycache__"]
        self.assertEqual(sorted(names), [path.name for path in FILES])
        self.assertIn("__init__.py", names)

    def test_size_and_signs(self):
        for path in FILES:
            text = path.read_text()
            lines = text.split("\n")
            self.assertLessEqual(len(lines), 400, path)
            self.assertLessEqual(max(map(len, lines)), 120, path)
            self.assertTrue(all(" " <= sign <= "~" or sign == "\n" for sign in text), path)
            self.assertEqual([word for word in re.findall(r"\w+", text) if word in BARRED], [], path)
            self.assertIsNone(re.search("dataclass|overload|contextmanager", text), path)

    def test_functions_are_small(self):
        for name, tree in self.trees():
            for node in ast.walk(tree):
                if isinstance(node, ast.FunctionDef):
                    self.assertLessEqual(node.end_lineno - node.lineno + 1, 40, (name, node.name))

    def test_imports_are_own_and_never_in_a_circle(self):
        imported = {"__init__": []}
        for name, tree in self.trees():
            nodes = [node for node in ast.walk(tree) if isinstance(node, (ast.Import, ast.ImportFrom))]
            for node in nodes:
                self.assertIsInstance(node, ast.ImportFrom, name)
                self.assertRegex(node.module, r"^streakdays\.[a-z]+$")
            imported[name[:-3]] = [node.module.split(".")[1] for node in nodes]
        self.assertEqual(imported["__init__"], [])
        done = set()
        while len(done) < len(imported):
            ready = [name for name in imported if name not in done and done.issuperset(imported[name])]
            self.assertTrue(ready, "imports go in a circle")
            done.update(ready)

    def test_names(self):
        for name, tree in self.trees():
            for node in ast.walk(tree):
                if isinstance(node, ast.Name):
                    self.assertFalse(node.id.startswith("_"), (name, node.lineno))
                    if hasattr(builtins, node.id):
                        self.assertIn(node.id, BUILTINS, (name, node.lineno))
                        self.assertIsInstance(node.ctx, ast.Load, (name, node.lineno))
                if isinstance(node, ast.arg):
                    self.assertFalse(hasattr(builtins, node.arg), (name, node.lineno))

    def test_no_name_is_a_method_and_an_attribute(self):
        methods, attributes = set(), set()
        for name, tree in self.trees():
            for node in ast.walk(tree):
                if isinstance(node, ast.ClassDef):
                    methods.update(row.name for row in node.body if isinstance(row, ast.FunctionDef))
                if isinstance(node, ast.Attribute) and isinstance(node.ctx, ast.Store):
                    attributes.add(node.attr)
        self.assertEqual(methods & attributes, set())
