import ast
import builtins
import pathlib
import unittest

PACKAGE = pathlib.Path(__file__).resolve().parent.parent / "leftasleep"

# The builtins that the language has and this package uses, or might.
BUILTINS = {
    "len", "range", "enumerate", "zip", "min", "max", "sum", "abs", "sorted", "reversed", "int", "str", "bool", "list",
    "tuple", "dict", "set", "isinstance", "ord", "repr", "any", "all", "divmod", "ValueError", "KeyError",
}
METHODS = {"append", "count", "extend", "get", "index", "isdigit", "items", "join", "pop", "split", "startswith", "values"}
BARRED = {"mro", "elements", "open", "input", "law", "type", "typing", "enum", "dir", "vars", "id", "help", "exit", "os"}


def files():
    return sorted(path for path in PACKAGE.rglob("*") if "__pycache__" not in path.parts and path.is_file())


def nodes(path, kind):
    return [node for node in ast.walk(ast.parse(path.read_text())) if isinstance(node, kind)]


class LanguageTest(unittest.TestCase):
    """Those of the rules of the language that can be seen at a glance."""

    def test_the_folder_holds_python_files_alone(self):
        self.assertIn(PACKAGE / "__init__.py", files())
        for path in files():
            self.assertRegex(path.name, r"\A[a-z0-9_]+\.py\Z")

    def test_characters_are_plain(self):
        for path in files():
            for sign in path.read_bytes():
                self.assertTrue(sign == 10 or 32 <= sign <= 126, path)

    def test_lines_files_and_functions_are_small(self):
        for path in files():
            lines = path.read_text().split("\n")
            self.assertLessEqual(len(lines), 399, path)
            self.assertLessEqual(max(len(line) for line in lines), 120, path)
            for made in nodes(path, ast.FunctionDef):
                self.assertLessEqual(made.end_lineno - made.lineno + 1, 40, (path, made.name))

    def test_imports_are_of_the_package(self):
        for path in files():
            self.assertEqual(nodes(path, ast.Import), [], path)
            for made in nodes(path, ast.ImportFrom):
                self.assertEqual(made.level, 0, path)
                self.assertTrue(made.module.startswith("leftasleep."), (path, made.module))

    def test_imports_name_the_file_that_defines_the_name(self):
        for path in files():
            for made in nodes(path, ast.ImportFrom):
                source = ast.parse((PACKAGE / (made.module.split(".")[1] + ".py")).read_text())
                defined = {node.name for node in source.body if isinstance(node, (ast.FunctionDef, ast.ClassDef))}
                for node in source.body:
                    if isinstance(node, ast.Assign):
                        defined.update(target.id for target in node.targets)
                for alias in made.names:
                    self.assertIn(alias.name, defined, path)

    def test_names_are_bound_once_and_mean_one_thing(self):
        for path in files():
            tree = ast.parse(path.read_text())
            imported = [alias.name for node in tree.body if isinstance(node, ast.ImportFrom) for alias in node.names]
            made = [node.name for node in tree.body if isinstance(node, (ast.FunctionDef, ast.ClassDef))]
            given = [target.id for node in tree.body if isinstance(node, ast.Assign) for target in node.targets]
            bound = imported + made + given
            self.assertEqual(len(set(bound)), len(bound), path)
            inner = {node.id for node in ast.walk(tree) if isinstance(node, ast.Name) and isinstance(node.ctx, ast.Store)}
            inner |= {node.arg for node in ast.walk(tree) if isinstance(node, ast.arg)}
            classes = {node.name for node in tree.body if isinstance(node, ast.ClassDef)}
            self.assertEqual((inner - set(given)) & (set(imported) | classes), set(), path)
            self.assertEqual((inner | set(bound)) & (set(dir(builtins)) | BARRED), set(), path)

    def test_only_plain_builtins_and_methods_are_used(self):
        own = {node.name for path in files() for node in nodes(path, ast.FunctionDef)}
        for path in files():
            named = {node.id for node in nodes(path, ast.Name) if isinstance(node.ctx, ast.Load)}
            self.assertLessEqual(named & set(dir(builtins)), BUILTINS, path)
            called = {node.func.attr for node in nodes(path, ast.Call) if isinstance(node.func, ast.Attribute)}
            self.assertLessEqual(called - own, METHODS, path)

    def test_any_and_all_take_lists(self):
        for path in files():
            self.assertEqual(nodes(path, (ast.GeneratorExp, ast.Yield, ast.YieldFrom)), [], path)

    def test_no_two_files_import_from_each_other(self):
        names = {path.stem: {made.module.split(".")[1] for made in nodes(path, ast.ImportFrom)} for path in files()}
        while names:
            ended = [name for name, others in names.items() if not others & set(names)]
            self.assertNotEqual(ended, [], names)
            for name in ended:
                del names[name]

    def test_no_floats_no_divisions_no_asynchronous_code(self):
        for path in files():
            self.assertEqual(nodes(path, (ast.Div, ast.AsyncFunctionDef, ast.Await, ast.Global)), [], path)
            for made in nodes(path, ast.Constant):
                self.assertNotIsInstance(made.value, (float, complex), path)


if __name__ == "__main__":
    unittest.main()
