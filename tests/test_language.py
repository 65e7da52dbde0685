"""What can be seen by a glance of the rules of ../shared/LANGUAGE.md, over all files of the package."""

import ast
import os
import unittest

ROOT = os.path.join(os.path.dirname(os.path.abspath(__file__)), "..")
FOLDER = os.path.join(ROOT, "runnets")
LIBRARY = ("heapq", "math", "itertools", "collections")
BUILTINS = set("""len range enumerate zip min max sum abs sorted reversed int str bool bytes list tuple dict set frozenset
isinstance ord repr any all divmod pow map iter next type ValueError""".split())
BARRED = set(dir(__builtins__) if not isinstance(__builtins__, dict) else __builtins__) - BUILTINS


def files():
    return sorted([name for name in os.listdir(FOLDER) if name != "__pycache__"])


def text_of(name):
    with open(os.path.join(FOLDER, name), encoding="utf-8") as file:
        return file.read()


class Files(unittest.TestCase):
    def test_only_python_files(self):
        self.assertIn("__init__.py", files())
        for name in files():
            self.assertTrue(name.endswith(".py") and name == name.lower(), name)

    def test_sizes_and_signs(self):
        for name in files():
            lines = text_of(name).split("\n")
            self.assertLess(len(lines), 400, name)
            for line in lines:
                self.assertLessEqual(len(line), 120, (name, line))
                self.assertTrue(all([" " <= sign <= "~" for sign in line]), (name, line))


class Code(unittest.TestCase):
    def nodes(self):
        for name in files():
            for node in ast.walk(ast.parse(text_of(name))):
                yield name, node

    def test_functions_are_short(self):
        for name, node in self.nodes():
            if isinstance(node, ast.FunctionDef):
                self.assertLessEqual(node.end_lineno - node.lineno + 1, 40, (name, node.name))
                self.assertEqual(node.decorator_list, [], (name, node.name))

    def test_imports(self):
        for name, node in self.nodes():
            self.assertNotIsInstance(node, ast.Import, name)
            if isinstance(node, ast.ImportFrom):
                self.assertEqual(node.level, 0, name)
                self.assertTrue(node.module in LIBRARY or node.module.startswith("runnets."), (name, node.module))
                self.assertNotIn("*", [held.name for held in node.names], name)

    def test_module_level(self):
        allowed = (ast.Expr, ast.ImportFrom, ast.FunctionDef, ast.ClassDef, ast.Assign)
        for name in files():
            for node in ast.parse(text_of(name)).body:
                self.assertIsInstance(node, allowed, name)

    def test_values(self):
        for name, node in self.nodes():
            self.assertNotIsInstance(node, (ast.Div, ast.Global, ast.AsyncFunctionDef, ast.Await), name)
            if isinstance(node, ast.Constant):
                self.assertNotIsInstance(node.value, (float, complex), name)

    def test_names(self):
        for name, node in self.nodes():
            if isinstance(node, ast.Name):
                self.assertNotIn(node.id, BARRED, name)
                if isinstance(node.ctx, ast.Store):
                    self.assertNotIn(node.id, BUILTINS, name)
            elif isinstance(node, (ast.arg, ast.FunctionDef, ast.ClassDef)):
                known = node.arg if isinstance(node, ast.arg) else node.name
                self.assertNotIn(known, BUILTINS | BARRED, name)

    def test_imported_names_mean_nothing_else(self):
        for name in files():
            nodes = list(ast.walk(ast.parse(text_of(name))))
            brought = {held.name for node in nodes if isinstance(node, ast.ImportFrom) for held in node.names}
            bound = {node.id for node in nodes if isinstance(node, ast.Name) and isinstance(node.ctx, ast.Store)}
            bound |= {node.arg for node in nodes if isinstance(node, ast.arg)}
            bound |= {node.name for node in nodes if isinstance(node, (ast.FunctionDef, ast.ClassDef))}
            self.assertEqual(brought & bound, set(), name)

    def test_no_two_files_import_from_each_other(self):
        ahead = {}
        for name in files():
            found = [node for node in ast.parse(text_of(name)).body if isinstance(node, ast.ImportFrom)]
            ahead[name[:-3]] = {node.module.split(".")[1] for node in found if node.module.startswith("runnets.")}
        while ahead:
            free = [name for name in ahead if not ahead[name]]
            self.assertTrue(free, ahead)
            for name in free:
                del ahead[name]
            for name in ahead:
                ahead[name] -= set(free)


if __name__ == "__main__":
    unittest.main()
