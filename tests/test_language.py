"""Rules of the language that can be seen from the files: sizes, signs, imports, builtins, and the interface."""

import ast
import builtins
import inspect
import unittest
from importlib import import_module
from pathlib import Path

FOLDER = Path(__file__).resolve().parent.parent / "kernelpapers"
FILES = sorted(FOLDER.rglob("*.py"))
BUILTINS = set(
    "len range enumerate zip min max sum abs sorted reversed int str bool list tuple dict set isinstance ord repr any all "
    "divmod Exception ValueError TypeError KeyError IndexError LookupError NotImplemented".split())
BARRED = set("register mro elements open input law typing enum Enum namedtuple compile eval exec exit dir id vars".split())
INTERFACE = {
    "terms": {
        "is_whole": "(thing, low, high)", "is_name": "(thing)", "is_term": "(thing)", "is_spot": "(thing)",
        "parts": "(term)", "part_at": "(term, spot)", "binders_at": "(term, spot)", "spots": "(term)",
        "changed": "(term, spot, other)", "size": "(term)", "free": "(term)", "raised": "(term, by=1, start=0)",
        "giving": "(term, other, number=0)", "lowered": "(term)", "applied": "(head, some)", "opened": "(term)",
    },
    "things": {
        "is_row": "(thing)", "ungrown": "(row)", "owns": "(row, maker)", "thing_saying": "(row)",
        "maker_saying": "(row, maker)", "eater_saying": "(row, height)",
    },
    "steps": {
        "steps": "(ground, term)", "stepped": "(ground, term, spot)", "worked": "(ground, term, most=3000)",
        "told_way": "(ground, term, most=3000)", "alike": "(ground, one, other)", "meeting": "(ground, term, one, other)",
    },
    "kernel": {
        "saying_of": "(ground, room, term)", "settles": "(ground, room, term, saying)", "unsound": "(ground)",
        "unsound_room": "(ground, room)",
    },
    "worths": {
        "saying_by_worths": "(ground, room, term)", "worked_by_worths": "(ground, term)", "giver": "(ground, term)",
    },
    "texts": {
        "show": "(term, names=0)", "read": "(text, names=0)", "show_ground": "(ground)", "read_ground": "(text)",
    },
    "deeds": {"is_deed": "(thing)", "done_at": "(ground, room, saying, deed)"},
    "search": {"search": "(ground, room, saying, depth=3)"},
    "scripts": {"is_script": "(thing)", "run": "(work, hole, deeds)", "otherwise": "(deeds)"},
    "short": {
        "shortenings": "(ground, room, paper)", "is_short": "(ground, room, paper)", "shortened": "(ground, room, paper)",
        "shorten": "(shelf, name)",
    },
}
CLASSES = {
    ("grounds", "Ground"): {
        "__init__": "(self, rows=None)", "rows": "(self)", "names": "(self)", "has": "(self, thing)", "told": "(self, name)",
        "with_row": "(self, row)", "__len__": "(self)", "__eq__": "(self, other)",
    },
    ("worths", "Worth"): {
        "__init__": "(self, ground, term)", "term": "(self)", "saying": "(self)", "ground": "(self)", "to": "(self, other)",
        "__eq__": "(self, other)",
    },
    ("work", "Work"): {
        "__init__": "(self, ground, saying, room=None)", "ground": "(self)", "holes": "(self)", "goal": "(self, hole)",
        "deed": "(self, hole)", "left": "(self, hole)", "filled": "(self)", "do": "(self, hole, deed)", "undo": "(self, hole)",
        "paper": "(self)", "twin": "(self)", "put_back": "(self, other)", "__len__": "(self)", "__eq__": "(self, other)",
    },
    ("shelf", "Shelf"): {
        "__init__": "(self)", "tell": "(self, row)", "mean": "(self, name, saying, term)",
        "settle": "(self, name, saying, paper)", "settle_by": "(self, name, saying, deeds)", "names": "(self)", "stale": "(self)",
        "ground": "(self)", "saying": "(self, name)", "paper": "(self, name)", "script": "(self, name)", "leans": "(self, name)",
        "above": "(self, name)", "rename": "(self, name, other)", "change": "(self, name, saying, paper)", "renew": "(self, name)",
        "out": "(self, name)", "good": "(self)", "ground_ahead": "(self, name)", "is_meaning": "(self, name)",
        "set_paper": "(self, name, paper)", "twin": "(self)", "__len__": "(self)", "__eq__": "(self, other)",
    },
    ("desk", "Desk"): {"__init__": "(self)", "say": "(self, line)", "shelf": "(self)", "work": "(self)"},
}
# The methods of Python's own values that may be called.
METHODS = set(
    "append clear copy count endswith extend find get index insert isalnum isalpha isdigit islower isspace isupper items join "
    "keys ljust lower lstrip partition pop remove replace reverse rfind rjust rpartition rsplit rstrip setdefault split "
    "splitlines startswith strip update upper values zfill".split())


def trees():
    return [(path, path.read_text(encoding="utf-8"), ast.parse(path.read_text(encoding="utf-8"))) for path in FILES]


class Files(unittest.TestCase):
    def test_the_folder_holds_nothing_else(self):
        for path in FOLDER.rglob("*"):
            if path.name != "__pycache__" and path.parent.name != "__pycache__":
                self.assertTrue(path.is_dir() or path.suffix == ".py", path)

    def test_lines_and_signs(self):
        for path, text, _ in trees():
            lines = text.splitlines()
            self.assertLessEqual(len(lines), 399, path)
            for line in lines:
                self.assertLessEqual(len(line), 120, (path, line))
            self.assertTrue(all(" " <= sign <= "~" or sign == "\n" for sign in text), path)

    def test_functions_have_at_most_forty_lines(self):
        for path, _, tree in trees():
            for node in ast.walk(tree):
                if isinstance(node, ast.FunctionDef):
                    self.assertLessEqual(node.end_lineno - node.lineno + 1, 40, (path, node.name))

    def test_imports_name_the_files_of_the_package(self):
        for path, _, tree in trees():
            for node in ast.walk(tree):
                self.assertNotIsInstance(node, ast.Import, path)
                if isinstance(node, ast.ImportFrom):
                    self.assertIn(node, tree.body, path)
                    self.assertTrue(node.module.startswith("kernelpapers."), path)
                    self.assertEqual(node.level, 0)
                    home = import_module(node.module)
                    for name in node.names:
                        thing = getattr(home, name.name)
                        self.assertEqual(getattr(thing, "__module__", node.module), node.module, (path, name.name))

    def test_names(self):
        for path, _, tree in trees():
            own = {node.name for node in tree.body if isinstance(node, (ast.FunctionDef, ast.ClassDef))}
            taken = {name.name for node in tree.body if isinstance(node, ast.ImportFrom) for name in node.names}
            for node in ast.walk(tree):
                if isinstance(node, ast.Name):
                    self.assertNotIn(node.id, BARRED, path)
                    if isinstance(node.ctx, ast.Store):
                        self.assertNotIn(node.id, BUILTINS | own | taken, path)
                    elif node.id in vars(builtins):
                        self.assertIn(node.id, BUILTINS, path)
                if isinstance(node, ast.arg):
                    self.assertNotIn(node.arg, BUILTINS | BARRED | own | taken, path)

    def test_no_name_of_a_builtin_is_given_another_meaning(self):
        for path, _, tree in trees():
            for node in ast.walk(tree):
                if isinstance(node, ast.Name) and isinstance(node.ctx, ast.Store):
                    self.assertNotIn(node.id, vars(builtins), path)
                if isinstance(node, (ast.FunctionDef, ast.ClassDef)) and not node.name.startswith("__"):
                    self.assertNotIn(node.name, vars(builtins), path)
                if isinstance(node, ast.arg):
                    self.assertNotIn(node.arg, vars(builtins), path)

    def test_methods_that_are_called(self):
        own = {node.name for _, _, tree in trees() for node in ast.walk(tree) if isinstance(node, ast.FunctionDef)}
        for path, _, tree in trees():
            for node in ast.walk(tree):
                if isinstance(node, ast.Call) and isinstance(node.func, ast.Attribute):
                    self.assertIn(node.func.attr, METHODS | own, path)
                    self.assertFalse(node.func.attr in METHODS and node.keywords, (path, node.func.attr))

    def test_no_name_is_a_method_and_an_attribute(self):
        methods, attributes = {}, {}
        for path, _, tree in trees():
            for made in [node for node in tree.body if isinstance(node, ast.ClassDef)]:
                methods.update({node.name: path for node in made.body if isinstance(node, ast.FunctionDef)})
                attributes.update({node.attr: path for node in ast.walk(made)
                                   if isinstance(node, ast.Attribute) and isinstance(node.ctx, ast.Store)})
        self.assertEqual(set(methods) & set(attributes), set())

    def test_words_of_python_that_are_not_used(self):
        barred = (ast.GeneratorExp, ast.Set, ast.SetComp, ast.Global, ast.AsyncFunctionDef, ast.Await, ast.Yield, ast.YieldFrom,
                  ast.NamedExpr, ast.AsyncFor)
        for path, _, tree in trees():
            for node in ast.walk(tree):
                self.assertNotIsInstance(node, barred, path)
                if isinstance(node, ast.Compare):
                    for sign, other in zip(node.ops, node.comparators):
                        if isinstance(sign, (ast.Is, ast.IsNot)):
                            self.assertTrue(isinstance(other, ast.Constant) and other.value in (None, True, False), path)
                if isinstance(node, ast.Constant) and isinstance(node.value, str):
                    self.assertNotIn("%", node.value, path)
                if isinstance(node, (ast.FunctionDef, ast.ClassDef)) and not isinstance(node, ast.Lambda):
                    self.assertEqual(node.decorator_list, [], path)
                if isinstance(node, ast.Raise) and node.exc is not None:
                    self.assertIsInstance(node.exc, ast.Call, path)
                    self.assertFalse(any(isinstance(arg, ast.Starred) for arg in node.exc.args), path)

    def test_no_two_files_import_from_each_other(self):
        wants = {path.stem: {node.module.split(".")[-1] for node in tree.body if isinstance(node, ast.ImportFrom)}
                 for path, _, tree in trees()}
        for file in wants:
            seen, waiting = set(), [file]
            while waiting:
                for other in wants[waiting.pop()]:
                    self.assertNotEqual(other, file)
                    if other not in seen:
                        seen.add(other)
                        waiting.append(other)

    def test_no_numbers_with_a_point(self):
        for path, _, tree in trees():
            for node in ast.walk(tree):
                self.assertNotIsInstance(node, ast.Div, path)
                if isinstance(node, ast.Constant):
                    self.assertNotIsInstance(node.value, float, path)


class Interface(unittest.TestCase):
    def test_names_and_arguments(self):
        for file, functions in INTERFACE.items():
            module = import_module(f"kernelpapers.{file}")
            for name, arguments in functions.items():
                function = getattr(module, name)
                self.assertEqual(str(inspect.signature(function)), arguments, name)
                self.assertEqual(function.__module__, module.__name__, name)

    def test_classes_and_their_own_methods(self):
        for (file, name), methods in CLASSES.items():
            made = getattr(import_module(f"kernelpapers.{file}"), name)
            self.assertEqual(made.__module__, f"kernelpapers.{file}")
            for method, arguments in methods.items():
                self.assertEqual(str(inspect.signature(vars(made)[method])), arguments, (name, method))


if __name__ == "__main__":
    unittest.main()
