"""A few rules of the language that the files of the package keep to, as far as they are told by their looks."""

import ast
import os
import unittest

import likestreets

FOLDER = os.path.dirname(likestreets.__file__)
LIBRARY = {"heapq": {"heappush", "heappop", "heapify", "heapreplace", "heappushpop"},
           "math": {"gcd", "lcm", "isqrt", "comb", "perm", "factorial"},
           "itertools": {"product", "combinations", "permutations"}}


def files():
    return sorted([name for name in os.listdir(FOLDER) if name != "__pycache__"])


def text_of(name):
    with open(os.path.join(FOLDER, name), "rb") as file:
        return file.read().decode("ascii")


def imports(tree):
    return [node for node in ast.walk(tree) if isinstance(node, (ast.Import, ast.ImportFrom))]


class TestLanguage(unittest.TestCase):
    def test_files(self):
        self.assertIn("__init__.py", files())
        for name in files():
            self.assertTrue(name.endswith(".py"), name)
            text = text_of(name)
            self.assertLessEqual(len(text.split("\n")), 400, name)
            for line in text.split("\n"):
                self.assertLessEqual(len(line), 120, name)
                self.assertNotIn("\t", line)
                self.assertTrue(all([" " <= sign <= "~" for sign in line]), name)

    def test_functions_are_short(self):
        for name in files():
            for node in ast.walk(ast.parse(text_of(name))):
                if isinstance(node, ast.FunctionDef):
                    self.assertLessEqual(node.end_lineno - node.lineno + 1, 40, (name, node.name))

    def test_imports(self):
        for name in files():
            for node in imports(ast.parse(text_of(name))):
                self.assertIsInstance(node, ast.ImportFrom)
                self.assertEqual(node.level, 0)
                names = {alias.name for alias in node.names}
                if node.module in LIBRARY:
                    self.assertLessEqual(names, LIBRARY[node.module])
                elif node.module != "__future__":
                    self.assertTrue(node.module.startswith("likestreets."), (name, node.module))
                self.assertTrue(all([alias.asname is None for alias in node.names]))

    def test_no_file_imports_itself_through_others(self):
        needs = {}
        for name in files():
            needed = [node.module for node in imports(ast.parse(text_of(name)))]
            needs["likestreets." + name[:-3]] = [module for module in needed if module.startswith("likestreets.")]
        done = []
        while needs:
            free = [module for module in sorted(needs) if all([other in done for other in needs[module]])]
            self.assertTrue(free, needs)
            done += free
            needs = {module: needs[module] for module in needs if module not in free}

    def test_no_name_is_that_of_an_import_or_a_class(self):
        for name in files():
            tree = ast.parse(text_of(name))
            barred = {alias.name for node in imports(tree) for alias in node.names}
            barred |= {node.name for node in ast.walk(tree) if isinstance(node, ast.ClassDef)}
            for node in ast.walk(tree):
                if isinstance(node, ast.Name) and isinstance(node.ctx, ast.Store):
                    self.assertNotIn(node.id, barred, name)
                if isinstance(node, ast.arg):
                    self.assertNotIn(node.arg, barred, name)


if __name__ == "__main__":
    unittest.main()
