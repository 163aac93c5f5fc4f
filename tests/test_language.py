"""The package's files keep to the rules of the language that can be seen in their text."""

import ast
import builtins
import pathlib
import re
import unittest

PACKAGE = pathlib.Path(__file__).resolve().parent.parent / "unitclasses"

NODES = {"Module", "Expr", "Assign", "AugAssign", "FunctionDef", "ClassDef", "If", "While", "For", "Return", "Break",
         "Continue", "Pass", "arguments", "arg", "Name", "Load", "Store", "Constant", "List", "Tuple", "Dict",
         "ListComp", "comprehension", "BinOp", "Add", "Sub", "Mult", "FloorDiv", "Mod", "UnaryOp", "USub", "Not",
         "BoolOp", "And", "Or", "Compare", "Eq", "NotEq", "Lt", "LtE", "Gt", "GtE", "In", "NotIn", "IfExp", "Call",
         "Attribute", "Subscript", "Slice", "ImportFrom", "alias", "Lambda", "keyword"}

OWN_NAMES_OF_PYTHON = {"len", "range", "enumerate", "zip", "min", "max", "sum", "abs", "sorted", "reversed", "int",
                       "str", "bool", "list", "tuple", "dict", "isinstance", "ord", "repr", "any", "all", "divmod"}

METHODS_OF_PYTHON = {"append", "extend", "get", "index", "insert", "items", "keys", "pop", "values", "copy", "count"}

WORDS = ("type", "typing", "typing_extensions", "enum", "Enum", "IntEnum", "StrEnum", "Flag", "IntFlag", "Generic",
         "Protocol", "ABC", "ABCMeta", "namedtuple", "NamedTuple", "TypedDict", "TYPE_CHECKING", "abstractmethod")

NAMES_NOT_USED = {"register", "mro", "elements", "open", "input", "version_info", "with_traceback", "add_note",
                  "attrgetter", "breakpoint", "builtins", "compile", "copyright", "credits", "delattr", "dir", "eval",
                  "exec", "exit", "gc", "getattr", "globals", "hasattr", "help", "id", "importlib", "license",
                  "locals", "methodcaller", "os", "quit", "setattr", "super", "type", "vars", "sys", "format",
                  "format_map"}


def files():
    return sorted(path for path in PACKAGE.iterdir() if path.name != "__pycache__")


def trees():
    return [ast.parse(path.read_text("utf-8"), path.name) for path in files()]


def bound_names(tree):
    for node in ast.walk(tree):
        if isinstance(node, (ast.FunctionDef, ast.ClassDef)):
            yield node.name
        elif isinstance(node, ast.arg):
            yield node.arg
        elif isinstance(node, ast.Name) and isinstance(node.ctx, ast.Store):
            yield node.id
        elif isinstance(node, ast.Attribute):
            yield node.attr


class Language(unittest.TestCase):
    def test_files(self):
        self.assertIn("__init__.py", [path.name for path in files()])
        for path in files():
            self.assertRegex(path.name, r"^([a-z][a-z0-9_]*|__init__|__main__)\.py$")

    def test_signs_and_sizes(self):
        for path in files():
            text = path.read_bytes().decode("utf-8")
            self.assertEqual(re.findall(r"[^ -~\n]", text), [], path.name)
            self.assertLessEqual(len(text.splitlines()), 400, path.name)
            self.assertLessEqual(max(len(line) for line in text.splitlines()), 120, path.name)
        for tree in trees():
            for node in ast.walk(tree):
                if isinstance(node, ast.FunctionDef):
                    self.assertLessEqual(node.end_lineno - node.lineno + 1, 40, node.name)

    def test_statements_and_expressions(self):
        for tree in trees():
            self.assertEqual({type(node).__name__ for node in ast.walk(tree)} - NODES, set())
            for node in ast.walk(tree):
                if isinstance(node, ast.Assign):
                    self.assertEqual(len(node.targets), 1)
                    self.assertNotIsInstance(node.targets[0], (ast.Tuple, ast.List))
                if isinstance(node, (ast.For, ast.While)):
                    self.assertEqual(node.orelse, [])
                if isinstance(node, ast.Constant):
                    self.assertIn(type(node.value), (int, str, bool, type(None)))
                if isinstance(node, (ast.FunctionDef, ast.ClassDef)):
                    self.assertEqual(node.decorator_list, [])
                if isinstance(node, ast.Call) and node.keywords:
                    self.assertEqual((node.func.id, [keyword.arg for keyword in node.keywords]), ("sorted", ["key"]))
                if isinstance(node, ast.arguments):
                    self.assertEqual((node.vararg, node.kwarg, node.kwonlyargs, node.posonlyargs),
                                     (None, None, [], []))

    def test_nothing_from_outside_is_imported(self):
        for tree in trees():
            for node in ast.walk(tree):
                if isinstance(node, ast.ImportFrom):
                    self.assertEqual(node.level, 0)
                    self.assertTrue(node.module.startswith("unitclasses."), node.module)

    def test_the_top_of_a_file(self):
        for tree in trees():
            names = []
            for node in tree.body[1:]:
                self.assertIsInstance(node, (ast.ImportFrom, ast.FunctionDef, ast.ClassDef, ast.Assign))
                names.append(node.targets[0].id if isinstance(node, ast.Assign) else getattr(node, "name", node))
            self.assertIsInstance(ast.get_docstring(tree), str)
            self.assertEqual(len(names), len(set(names)))

    def test_names(self):
        for tree in trees():
            names = set(bound_names(tree))
            self.assertEqual(names & NAMES_NOT_USED, set())
            self.assertEqual([name for name in names if name != "__init__" and not re.match(r"[A-Za-z]\w*$", name)], [])
            plain = {name for name in names if name not in METHODS_OF_PYTHON}
            self.assertEqual(plain & set(builtins.__dict__), set())
            read = {node.id for node in ast.walk(tree) if isinstance(node, ast.Name)}
            self.assertEqual((read & set(builtins.__dict__)) - OWN_NAMES_OF_PYTHON, set())

    def test_methods_of_python_s_own_values(self):
        for tree in trees():
            called = {node.func.attr for node in ast.walk(tree)
                      if isinstance(node, ast.Call) and isinstance(node.func, ast.Attribute)}
            own = {node.name for node in ast.walk(tree) if isinstance(node, ast.FunctionDef)}
            self.assertEqual(called - own - METHODS_OF_PYTHON, set())

    def test_words(self):
        for path in files():
            words = set(re.findall(r"\w+", path.read_text("utf-8")))
            self.assertEqual(words & set(WORDS), set(), path.name)


if __name__ == "__main__":
    unittest.main()
