"""The form of the package: the interface's names and arguments, and rules of LANGUAGE.md that are plain to check."""

import ast
import builtins
import importlib
import inspect
import pathlib
import re
import unittest

PACKAGE = pathlib.Path(__file__).resolve().parent.parent / "worthrooms"
INTERFACE = {
    "towns": {"town_wrong": ["thing"], "standing_wrong": ["town", "thing"], "wealths": ["town", "standing"],
              "stands_of": ["town", "standing"], "placed": ["town", "standing", "stands"]},
    "exchanges": {"exchanged": ["town", "standing", "pair"], "gone": ["town", "standing", "row"],
                  "may": ["town", "standing"]},
    "rooms": {"rooms": ["town", "standing"], "room_of": ["town", "standing", "hand"],
              "in_lot": ["town", "standing", "stands"]},
    "walls": {"fence": ["town", "standing", "hand"], "fence_wrong": ["town", "standing", "hand", "thing"]},
    "ways": {"come": ["town", "standing", "stands"], "bring": ["town", "standing", "hand", "home"],
             "come_wrong": ["town", "standing", "stands", "thing"],
             "bring_wrong": ["town", "standing", "hand", "home", "thing"]},
}
BUILTINS = """len range enumerate zip min max sum abs sorted reversed int str bool bytes list tuple dict set isinstance
ord repr any all divmod ValueError KeyError""".split()
NODES_BARRED = (ast.Global, ast.Import, ast.AsyncFunctionDef, ast.Await, ast.Div)
WORDS_BARRED = r"\b(type|typing|enum|Enum|ABC|namedtuple|dataclass|eval|exec|open|input|law)\b|_wall\b|__class__"


def files():
    return sorted(PACKAGE.rglob("*.py"))


def tree(file):
    return ast.parse(file.read_text(encoding="utf-8"))


def without_docstrings(tree_of_file):
    for node in ast.walk(tree_of_file):
        if isinstance(node, (ast.Module, ast.ClassDef, ast.FunctionDef)) and ast.get_docstring(node) is not None:
            node.body = node.body[1:] or [ast.Pass()]
    return ast.unparse(tree_of_file)


class Interface(unittest.TestCase):
    def test_functions_with_their_arguments_in_their_files(self):
        for file, functions in INTERFACE.items():
            module = importlib.import_module("worthrooms." + file)
            for word, arguments in functions.items():
                function = getattr(module, word)
                self.assertEqual(function.__module__, "worthrooms." + file)
                told = inspect.signature(function).parameters.values()
                self.assertEqual([argument.name for argument in told], arguments)
                self.assertEqual({argument.kind for argument in told}, {inspect.Parameter.POSITIONAL_OR_KEYWORD})


class Form(unittest.TestCase):
    def test_the_folder_holds_nothing_else(self):
        things = [thing for thing in PACKAGE.rglob("*") if "__pycache__" not in thing.parts]
        self.assertEqual(sorted(things), files())
        self.assertIn(PACKAGE / "__init__.py", things)

    def test_signs_and_sizes(self):
        for file in files():
            text = file.read_text(encoding="utf-8")
            self.assertRegex(text, r"\A[ -~\n]*\Z", file)
            self.assertLessEqual(len(text.splitlines()), 399, file)
            self.assertLessEqual(max(map(len, text.splitlines())), 120, file)
            for node in ast.walk(tree(file)):
                if isinstance(node, ast.FunctionDef):
                    self.assertLessEqual(node.end_lineno - node.lineno + 1, 40, node.name)

    def test_module_level(self):
        for file in files():
            for node in tree(file).body:
                docstring = isinstance(node, ast.Expr) and isinstance(node.value, ast.Constant)
                plain = (ast.ImportFrom, ast.FunctionDef, ast.ClassDef, ast.Assign)
                self.assertTrue(docstring or isinstance(node, plain), ast.dump(node))

    def test_imports_name_the_file_that_defines(self):
        for file in files():
            for node in ast.walk(tree(file)):
                if isinstance(node, ast.ImportFrom) and node.module not in ("heapq", "math", "itertools", "collections"):
                    self.assertRegex(node.module, r"\Aworthrooms\.\w+\Z")
                    module = importlib.import_module(node.module)
                    for told in node.names:
                        self.assertIsNone(told.asname)
                        home = getattr(getattr(module, told.name), "__module__", node.module)
                        self.assertEqual(home, node.module)

    def test_no_name_has_two_meanings(self):
        for file in files():
            nodes = list(ast.walk(tree(file)))
            told = [name.name for node in nodes if isinstance(node, ast.ImportFrom) for name in node.names]
            told += [node.name for node in tree(file).body if isinstance(node, (ast.ClassDef, ast.FunctionDef))]
            self.assertEqual(len(set(told)), len(told), file)
            given = [node.id for node in nodes if isinstance(node, ast.Name) and isinstance(node.ctx, ast.Store)]
            given += [node.arg for node in nodes if isinstance(node, ast.arg)]
            self.assertEqual(set(given) & set(told), set(), file)

    def test_no_two_files_import_from_each_other(self):
        above = {}
        for file in files():
            parts = [node.module.split(".") for node in ast.walk(tree(file)) if isinstance(node, ast.ImportFrom)]
            above[file.stem] = {part[1] for part in parts if part[0] == "worthrooms"}
        while above:
            free = [word for word in above if not above[word] & set(above)]
            self.assertNotEqual(free, [], above)
            for word in free:
                del above[word]

    def test_no_statement_or_value_that_is_barred(self):
        for file in files():
            for node in ast.walk(tree(file)):
                self.assertNotIsInstance(node, NODES_BARRED, file)
                if isinstance(node, ast.Constant):
                    self.assertNotIsInstance(node.value, (float, complex), file)
                if isinstance(node, (ast.FunctionDef, ast.ClassDef)):
                    self.assertEqual(node.decorator_list, [], file)
            self.assertIsNone(re.search(WORDS_BARRED, without_docstrings(tree(file))), file)

    def test_builtins(self):
        for file in files():
            for node in ast.walk(tree(file)):
                # A run of the README's examples leaves a builtin called _ behind.
                if isinstance(node, ast.Name) and node.id != "_" and hasattr(builtins, node.id):
                    self.assertIn(node.id, BUILTINS, file)
                    self.assertIsInstance(node.ctx, ast.Load, file)


if __name__ == "__main__":
    unittest.main()
