"""The rules for the files of the package that a look at its code can check."""

import ast
import pathlib
import unittest

# Where a rule allows something in a few places only, these lists leave it out altogether.
FOLDER = pathlib.Path(__file__).resolve().parent.parent / "farmisses"
FILES = sorted(FOLDER.rglob("*.py"))
BUILTINS = """len range enumerate zip min max sum abs sorted reversed int str bool list tuple dict
set isinstance ord repr any all divmod ValueError RuntimeError NotImplemented property classmethod
staticmethod super Exception TypeError KeyError iter next""".split()
BARRED = """register mro elements open input law type typing enum global eval exec id vars dir help
sort format hash map filter round object""".split()
LIBRARY = {"heapq", "math", "itertools", "collections"}


def trees():
    for path in FILES:
        yield path, ast.parse(path.read_text(encoding="ascii"))


def names_of(tree):
    for node in ast.walk(tree):
        if isinstance(node, ast.Name):
            yield node.id, node
        elif isinstance(node, ast.Attribute):
            yield node.attr, node
        elif isinstance(node, (ast.FunctionDef, ast.ClassDef)):
            yield node.name, node
        elif isinstance(node, ast.arg):
            yield node.arg, node


class LanguageTest(unittest.TestCase):

    def test_the_folder_holds_files_of_the_package_only(self):
        self.assertGreater(len(FILES), 0)
        for path in FOLDER.rglob("*"):
            if "__pycache__" in path.parts:
                continue
            self.assertTrue(path in FILES or (path / "__init__.py") in FILES, path)
            self.assertFalse(path.name.startswith("test"), path)

    def test_characters_and_sizes(self):
        for path in FILES:
            text = path.read_text(encoding="ascii")
            lines = text.split("\n")
            self.assertTrue(text.endswith("\n"), path)
            self.assertLessEqual(len(lines), 400, path)
            for line in lines:
                self.assertTrue(line == "" or line.isprintable(), path)
                self.assertLessEqual(len(line), 120, path)

    def test_functions_are_small(self):
        for path, tree in trees():
            for node in ast.walk(tree):
                if isinstance(node, ast.FunctionDef):
                    self.assertLessEqual(node.end_lineno - node.lineno + 1, 40, node.name)

    def test_imports(self):
        for path, tree in trees():
            for node in ast.walk(tree):
                self.assertNotIsInstance(node, (ast.Import, ast.Global, ast.AsyncFunctionDef), path)
                if isinstance(node, ast.ImportFrom):
                    self.assertIn(node, tree.body, path)
                    self.assertEqual(node.level, 0, path)
                    self.assertTrue(node.module.startswith("farmisses.") or node.module in LIBRARY)

    def test_module_level(self):
        kinds = (ast.ImportFrom, ast.FunctionDef, ast.ClassDef, ast.Assign, ast.Expr)
        for path, tree in trees():
            self.assertTrue(ast.get_docstring(tree), path)
            for node in tree.body:
                self.assertIsInstance(node, kinds, path)

    def test_builtins_and_names(self):
        known = vars(__builtins__) if not isinstance(__builtins__, dict) else __builtins__
        for path, tree in trees():
            for name, node in names_of(tree):
                self.assertNotIn(name, BARRED, (path, node.lineno))
                if isinstance(node, ast.Name) and name in known:
                    self.assertIn(name, BUILTINS, (path, node.lineno))
                if isinstance(node, (ast.arg, ast.ClassDef)):
                    self.assertNotIn(name, known, (path, node.lineno))
                if isinstance(node, ast.Name) and isinstance(node.ctx, ast.Store):
                    self.assertNotIn(name, known, (path, node.lineno))

    def test_values_and_expressions(self):
        for path, tree in trees():
            for node in ast.walk(tree):
                place = (path, getattr(node, "lineno", 0))
                self.assertNotIsInstance(node, (ast.GeneratorExp, ast.Div, ast.Set), place)
                if isinstance(node, ast.Constant):
                    self.assertNotIsInstance(node.value, (float, complex, bytes), place)
                    if isinstance(node.value, str):
                        self.assertNotIn(chr(37), node.value, place)

    def test_names_mean_one_thing(self):
        methods, properties, attributes, generators = set(), set(), set(), set()
        for path, tree in trees():
            own = {name.name for node in tree.body if isinstance(node, ast.ImportFrom) for name in node.names}
            own |= {node.name for node in tree.body if isinstance(node, ast.ClassDef)}
            for node in ast.walk(tree):
                if isinstance(node, ast.ClassDef):
                    for method in node.body:
                        if isinstance(method, ast.FunctionDef):
                            marks = [mark.id for mark in method.decorator_list]
                            (properties if "property" in marks else methods).add(method.name)
                elif isinstance(node, ast.Attribute) and isinstance(node.ctx, ast.Store):
                    attributes.add(node.attr)
                elif isinstance(node, ast.FunctionDef):
                    if any(isinstance(part, (ast.Yield, ast.YieldFrom)) for part in ast.walk(node)):
                        generators.add(node.name)
                    names = {part.arg for part in node.args.args}
                    names |= {part.id for part in ast.walk(node)
                              if isinstance(part, ast.Name) and isinstance(part.ctx, ast.Store)}
                    self.assertEqual(names & own, set(), (path, node.name))
        self.assertEqual(methods & attributes, set())
        self.assertEqual(properties & (methods | attributes), set())
        # The document has a property and a generator of this one name.
        self.assertEqual(generators & (methods | properties | attributes), {"accesses"})

    def iterated(self, node):
        """What a loop goes over: itself, or what its enumerate, zip, reversed or view goes over."""
        if not isinstance(node, ast.Call):
            return [node]
        if isinstance(node.func, ast.Attribute):
            return [node.func.value]
        if node.func.id in ("enumerate", "zip", "reversed"):
            return [part for argument in node.args for part in self.iterated(argument)]
        return []

    def test_what_is_iterated_over_is_not_modified(self):
        changing = {"append", "clear", "extend", "insert", "pop", "remove", "reverse", "setdefault", "update"}
        for path, tree in trees():
            for node in ast.walk(tree):
                if not isinstance(node, ast.For):
                    continue
                over = {ast.unparse(part) for part in self.iterated(node.iter)}
                for part in [part for line in node.body for part in ast.walk(line)]:
                    changed = None
                    if isinstance(part, ast.Call) and isinstance(part.func, ast.Attribute) and part.func.attr in changing:
                        changed = ast.unparse(part.func.value)
                    elif isinstance(part, ast.Subscript) and not isinstance(part.ctx, ast.Load):
                        changed = ast.unparse(part.value)
                    self.assertNotIn(changed, over, (path, node.lineno))

    def test_generators_are_iterated_at_once(self):
        generators = {node.name for _, tree in trees() for node in ast.walk(tree) if isinstance(node, ast.FunctionDef)
                      and any(isinstance(part, (ast.Yield, ast.YieldFrom)) for part in ast.walk(node))}
        for path, tree in trees():
            calls = [node for node in ast.walk(tree) if isinstance(node, ast.Call)
                     and isinstance(node.func, ast.Name) and node.func.id in generators]
            iterated = [node.iter for node in ast.walk(tree) if isinstance(node, (ast.For, ast.comprehension))]
            iterated += [node.value for node in ast.walk(tree) if isinstance(node, ast.YieldFrom)]
            iterated += [node.args[0] for node in ast.walk(tree) if isinstance(node, ast.Call) and node.args
                         and isinstance(node.func, ast.Name) and node.func.id in ("list", "tuple", "dict")]
            for call in calls:
                self.assertIn(call, iterated, (path, call.lineno))
                for argument in call.args:
                    self.assertIsInstance(argument, (ast.Name, ast.Attribute, ast.Constant, ast.Dict), (path, call.lineno))

    def test_names_of_methods(self):
        for path, tree in trees():
            for node in ast.walk(tree):
                if isinstance(node, ast.ClassDef):
                    for method in node.body:
                        if isinstance(method, ast.FunctionDef):
                            self.assertNotIn(method.name, ("keys", "values", "items", "sort", "decode"), path)

    def test_imports_are_used(self):
        for path, tree in trees():
            names = {node.id for node in ast.walk(tree) if isinstance(node, ast.Name)}
            for node in tree.body:
                if isinstance(node, ast.ImportFrom):
                    for name in node.names:
                        self.assertIn(name.name, names, path)
                        self.assertIsNone(name.asname, path)

    def test_everything_is_described(self):
        for path, tree in trees():
            for node in ast.walk(tree):
                if isinstance(node, ast.ClassDef) or (
                        isinstance(node, ast.FunctionDef) and not node.name.startswith("__")):
                    self.assertTrue(ast.get_docstring(node), (path, node.name))


if __name__ == "__main__":
    unittest.main()
