"""The form of the package: the interface's names and arguments, and rules of LANGUAGE.md that are plain to check."""

import ast
import builtins
import importlib
import inspect
import pathlib
import re
import unittest

PACKAGE = pathlib.Path(__file__).resolve().parent.parent / "worthrooms"
INTERFACE = {
    "towns": {"town_wrong": ["thing"], "standing_wrong": ["town", "thing"], "wealths": ["town", "standing"],
              "stands_of": ["town", "standing"], "placed": ["town", "standing", "stands"]},
    "exchanges": {"exchanged": ["town", "standing", "pair"], "gone": ["town", "standing", "row"],
                  "may": ["town", "standing"]},
    "rooms": {"rooms": ["town", "standing"], "room_of": ["town", "standing", "hand"],
              "in_lot": ["town", "standing", "stands"]},
    "walls": {"fence": ["town", "standing", "hand"], "fence_wrong": ["town", "standing", "hand", "thing"]},
    "ways": {"come": ["town", "standing", "stands"], "bring": ["town", "standing", "hand", "home"],
             "come_wrong": ["town", "standing", "stands", "thing"],
             "bring_wrong": ["town", "standing", "hand", "home", "thing"]},
    "counts": {"count": ["town", "standing", "*given"], "nth": ["town", "standing", "n", "*given"],
               "first": ["town", "standing"], "number": ["town", "standing", "stands"],
               "share": ["town", "standing", "hand", "home"], "mean": ["town", "standing", "hand"],
               "loose": ["town", "standing", "hand"]},
    "bands": {"band": ["town", "standing", "hand"], "stripped": ["town", "standing"], "alike": ["town", "one", "other"],
              "alike_wrong": ["town", "one", "other", "thing"]},
    "needs": {"roads_wanted": ["town", "standing"], "roads_wrong": ["town", "standing", "thing"],
              "needed": ["town", "standing", "hand", "home"], "beside": ["town", "standing", "hand", "home", "other"]},
    "wishes": {"granted": ["town", "standing", "wishes"], "granted_wrong": ["town", "standing", "wishes", "thing"],
               "left": ["town", "standing", "wishes"], "by_coins": ["town", "standing", "coins"]},
    "events": {"event_wrong": ["town", "standing", "thing"], "struck": ["town", "standing", "event"],
               "through": ["town", "standing", "event", "stands"],
               "through_wrong": ["town", "standing", "event", "stands", "thing"]},
    "gifts": {"least_grant": ["town", "standing", "hand", "other", "home"],
              "both_papers": ["town", "standing", "hand", "other", "home"]},
    "calendars": {"calendar_wrong": ["town", "standing", "thing"],
                  "lots_behind": ["town", "standing", "calendar", "*most"],
                  "led": ["town", "standing", "calendar", "stands", "*most"],
                  "led_wrong": ["town", "standing", "calendar", "stands", "thing", "*most"]},
}
DEFAULTS = {"given": None, "most": 720}
BUILTINS = """len range enumerate zip min max sum abs sorted reversed int str bool bytes list tuple dict set isinstance
ord repr any all divmod ValueError KeyError""".split()
NODES_BARRED = (ast.Global, ast.Import, ast.AsyncFunctionDef, ast.Await, ast.Div)
WORDS_BARRED = r"\b(type|typing|enum|Enum|ABC|namedtuple)\b|dataclass|overload|_wall\b|_WallAttr|__class__"
NAMES_BARRED = "register mro elements open input law compile dir eval exec exit gc help id os quit super vars".split()


def files():
    return sorted(PACKAGE.rglob("*.py"))


def tree(file):
    return ast.parse(file.read_text(encoding="utf-8"))


def without_docstrings(tree_of_file):
    for node in ast.walk(tree_of_file):
        if isinstance(node, (ast.Module, ast.ClassDef, ast.FunctionDef)) and ast.get_docstring(node) is not None:
            node.body = node.body[1:] or [ast.Pass()]
    return ast.unparse(tree_of_file)


INNER = (ast.ListComp, ast.SetComp, ast.DictComp, ast.GeneratorExp, ast.Lambda)


def assigned(node):
    """The names that the function, lambda or comprehension assigns, not those of comprehensions in it."""
    found, todo = set(), [node]
    while todo:
        part = todo.pop()
        if isinstance(part, ast.Name) and isinstance(part.ctx, ast.Store):
            found.add(part.id)
        if isinstance(part, ast.arg):
            found.add(part.arg)
        todo += [inner for inner in ast.iter_child_nodes(part) if not isinstance(inner, INNER)]
    return found


class Interface(unittest.TestCase):
    def test_functions_with_their_arguments_in_their_files(self):
        for file, functions in INTERFACE.items():
            module = importlib.import_module("worthrooms." + file)
            for word, arguments in functions.items():
                function = getattr(module, word)
                self.assertEqual(function.__module__, "worthrooms." + file)
                told = inspect.signature(function).parameters.values()
                stars = {inspect.Parameter.POSITIONAL_OR_KEYWORD: "", inspect.Parameter.KEYWORD_ONLY: "*"}
                self.assertEqual([stars[argument.kind] + argument.name for argument in told], arguments)
                for argument in told:
                    default = DEFAULTS.get(argument.name, inspect.Parameter.empty)
                    self.assertEqual(argument.default, default, (word, argument))


class Form(unittest.TestCase):
    def test_the_folder_holds_nothing_else(self):
        things = [thing for thing in PACKAGE.rglob("*") if "__pycache__" not in thing.parts]
        self.assertEqual(sorted(things), files())
        self.assertIn(PACKAGE / "__init__.py", things)

    def test_signs_and_sizes(self):
        for file in files():
            text = file.read_text(encoding="utf-8")
            self.assertRegex(text, r"\A[ -~\n]*\Z", file)
            self.assertLessEqual(len(text.splitlines()), 399, file)
            self.assertLessEqual(max(map(len, text.splitlines())), 120, file)
            for node in ast.walk(tree(file)):
                if isinstance(node, ast.FunctionDef):
                    self.assertLessEqual(node.end_lineno - node.lineno + 1, 40, node.name)

    def test_module_level(self):
        for file in files():
            for node in tree(file).body:
                docstring = isinstance(node, ast.Expr) and isinstance(node.value, ast.Constant)
                plain = (ast.ImportFrom, ast.FunctionDef, ast.ClassDef, ast.Assign)
                self.assertTrue(docstring or isinstance(node, plain), ast.dump(node))

    def test_imports_name_the_file_that_defines(self):
        for file in files():
            for node in ast.walk(tree(file)):
                if isinstance(node, ast.ImportFrom) and node.module not in ("heapq", "math", "itertools", "collections"):
                    self.assertRegex(node.module, r"\Aworthrooms\.\w+\Z")
                    module = importlib.import_module(node.module)
                    for told in node.names:
                        self.assertIsNone(told.asname)
                        home = getattr(getattr(module, told.name), "__module__", node.module)
                        self.assertEqual(home, node.module)

    def test_no_name_has_two_meanings(self):
        for file in files():
            nodes = list(ast.walk(tree(file)))
            told = [name.name for node in nodes if isinstance(node, ast.ImportFrom) for name in node.names]
            told += [node.name for node in tree(file).body if isinstance(node, (ast.ClassDef, ast.FunctionDef))]
            self.assertEqual(len(set(told)), len(told), file)
            given = [node.id for node in nodes if isinstance(node, ast.Name) and isinstance(node.ctx, ast.Store)]
            given += [node.arg for node in nodes if isinstance(node, ast.arg)]
            self.assertEqual(set(given) & set(told), set(), file)

    def test_no_two_files_import_from_each_other(self):
        above = {}
        for file in files():
            parts = [node.module.split(".") for node in ast.walk(tree(file)) if isinstance(node, ast.ImportFrom)]
            above[file.stem] = {part[1] for part in parts if part[0] == "worthrooms"}
        while above:
            free = [word for word in above if not above[word] & set(above)]
            self.assertNotEqual(free, [], above)
            for word in free:
                del above[word]

    def test_no_statement_or_value_that_is_barred(self):
        for file in files():
            for node in ast.walk(tree(file)):
                self.assertNotIsInstance(node, NODES_BARRED, file)
                if isinstance(node, ast.Constant):
                    self.assertNotIsInstance(node.value, (float, complex), file)
                if isinstance(node, (ast.FunctionDef, ast.ClassDef)):
                    self.assertEqual(node.decorator_list, [], file)
            self.assertIsNone(re.search(WORDS_BARRED, without_docstrings(tree(file))), file)

    def test_no_name_that_is_barred(self):
        for file in files():
            for node in ast.walk(tree(file)):
                told = [getattr(node, word, None) for word in ("id", "attr", "arg", "name")]
                for name in filter(None, told):
                    self.assertNotIn(name, NAMES_BARRED, file)
                    self.assertNotRegex(name, r"\A_(wall|pe_|dcw_|enum_|cm_|twin_re_|lay_|law_|stub_|sre)", file)

    def test_an_inner_comprehension_has_names_of_its_own(self):
        for file in files():
            for function in ast.walk(tree(file)):
                if isinstance(function, ast.FunctionDef):
                    self.check_inner_names(function, assigned(function), 0)

    def check_inner_names(self, node, further_out, depth):
        """L7: within a comprehension or a lambda no comprehension assigns a name that is assigned further out."""
        for part in ast.iter_child_nodes(node):
            if isinstance(part, INNER):
                own = assigned(part)
                if depth > 0 and not isinstance(part, ast.Lambda):
                    self.assertEqual(own & further_out, set(), ast.unparse(part))
                self.check_inner_names(part, further_out | own, depth + 1)
            else:
                self.check_inner_names(part, further_out, depth)

    def test_builtins(self):
        for file in files():
            for node in ast.walk(tree(file)):
                # A run of the README's examples leaves a builtin called _ behind.
                if isinstance(node, ast.Name) and node.id != "_" and hasattr(builtins, node.id):
                    self.assertIn(node.id, BUILTINS, file)
                    self.assertIsInstance(node.ctx, ast.Load, file)


if __name__ == "__main__":
    unittest.main()
