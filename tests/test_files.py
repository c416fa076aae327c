"""The rules of the language that can be read off the files of the package: sizes, characters, names, imports."""

import ast
import builtins
import os
import re
import unittest

FOLDER = os.path.join(os.path.dirname(os.path.dirname(os.path.abspath(__file__))), "leaveorder")
BUILTINS = """len range enumerate zip min max sum abs sorted reversed int str bool list tuple dict set isinstance ord repr
any all divmod iter next property Exception ValueError TypeError KeyError IndexError LookupError super""".split()
LIBRARY = {"itertools": {"combinations", "permutations", "product"}, "math": {"comb", "gcd", "lcm"}}
STATEMENTS = (
    ast.FunctionDef, ast.ClassDef, ast.Assign, ast.AugAssign, ast.If, ast.While, ast.For, ast.Return, ast.Break,
    ast.Continue, ast.Pass, ast.Raise, ast.Expr, ast.ImportFrom, ast.Delete, ast.Try,
)


def files():
    return sorted(name for name in os.listdir(FOLDER) if name != "__pycache__")


def source(name):
    with open(os.path.join(FOLDER, name), encoding="utf-8") as file:
        return file.read()


def trees():
    return [(name, ast.parse(source(name))) for name in files()]


class FilesTest(unittest.TestCase):

    def test_names_of_files(self):
        for name in files():
            self.assertRegex(name, r"^(__init__|[a-z][a-z0-9_]*)\.py$")
        for name in ("__init__.py", "errors.py", "webs.py", "leaving.py", "bare_rounds.py", "whole_lots.py",
                     "partings.py", "lot_trees.py", "subtrees.py", "orders.py", "starts.py", "swaps.py", "dyes.py",
                     "covers.py", "fillings.py", "widths.py", "stretches.py", "tables.py", "joining.py",
                     "live.py", "paper_texts.py", "console.py"):
            self.assertIn(name, files())

    def test_characters_and_sizes(self):
        for name in files():
            text = source(name)
            self.assertRegex(text, re.compile(r"\A[ -~\n]*\Z"), name)
            self.assertLessEqual(text.count("\n"), 399, name)
            for line in text.split("\n"):
                self.assertLessEqual(len(line), 120, (name, line))
            for node in ast.walk(ast.parse(text)):
                if isinstance(node, ast.FunctionDef):
                    self.assertLessEqual(node.end_lineno - node.lineno + 1, 40, (name, node.name))
                    self.assertIn([ast.unparse(told) for told in node.decorator_list], ([], ["property"]), name)
                if isinstance(node, ast.Constant) and isinstance(node.value, str):
                    self.assertNotIn("%", node.value)

    def test_statements(self):
        for name, tree in trees():
            for node in ast.walk(tree):
                if isinstance(node, ast.stmt):
                    self.assertIsInstance(node, STATEMENTS, (name, node.lineno))
                self.assertNotIsInstance(node, (ast.Set, ast.SetComp, ast.GeneratorExp, ast.Await, ast.Yield,
                                                ast.NamedExpr, ast.Div), (name, getattr(node, "lineno", 0)))
                self.assertFalse(isinstance(node, ast.Constant) and isinstance(node.value, float), name)

    def test_calls_with_stars_and_equality(self):
        for name, tree in trees():
            for node in ast.walk(tree):
                if isinstance(node, ast.Call):
                    for told in node.args:
                        if isinstance(told, ast.Starred):
                            self.assertIsInstance(told.value, (ast.Name, ast.Attribute), (name, node.lineno))
                if isinstance(node, ast.FunctionDef) and node.name == "__eq__":
                    for part in ast.walk(node):
                        self.assertNotIsInstance(part, (ast.Assign, ast.AugAssign, ast.Delete), (name, node.lineno))

    def test_builtins_are_used_and_not_renamed(self):
        every = set(dir(builtins))
        for name, tree in trees():
            for node in ast.walk(tree):
                if isinstance(node, ast.Name) and node.id in every:
                    self.assertIn(node.id, BUILTINS, (name, node.lineno))
                    self.assertIsInstance(node.ctx, ast.Load, (name, node.lineno))
                if isinstance(node, (ast.FunctionDef, ast.ClassDef)):
                    self.assertNotIn(node.name, every, name)
                if isinstance(node, ast.arg):
                    self.assertNotIn(node.arg, every, name)

    def test_imports(self):
        needed = {}
        for name, tree in trees():
            told = [node for node in ast.walk(tree) if isinstance(node, (ast.Import, ast.ImportFrom))]
            needed[name] = []
            for node in told:
                self.assertIsInstance(node, ast.ImportFrom, name)
                if node.module in LIBRARY:
                    self.assertLessEqual({alias.name for alias in node.names}, LIBRARY[node.module], name)
                    self.assertFalse([alias for alias in node.names if alias.asname], name)
                    continue
                self.assertEqual((node.level, node.module.split(".")[0]), (0, "leaveorder"), name)
                file = node.module.split(".")[1] + ".py"
                needed[name].append(file)
                defined = [other.name for other in ast.parse(source(file)).body if hasattr(other, "name")]
                defined += [target.id for other in ast.parse(source(file)).body if isinstance(other, ast.Assign)
                            for target in other.targets]
                for alias in node.names:
                    self.assertIn(alias.name, defined, name)
                    self.assertIsNone(alias.asname)
        while needed:
            free = [name for name in needed if not [file for file in needed[name] if file in needed]]
            self.assertTrue(free, "files import from each other")
            needed = {name: needed[name] for name in needed if name not in free}

    def test_no_name_of_an_import_is_used_for_anything_else(self):
        for name, tree in trees():
            told = [alias.name for node in tree.body if isinstance(node, ast.ImportFrom) for alias in node.names]
            self.assertEqual(len(told), len(set(told)))
            for node in ast.walk(tree):
                if isinstance(node, ast.Name) and isinstance(node.ctx, ast.Store):
                    self.assertNotIn(node.id, told, name)
                if isinstance(node, ast.arg):
                    self.assertNotIn(node.arg, told, name)
            used = [node.id for node in ast.walk(tree) if isinstance(node, ast.Name)]
            self.assertFalse([word for word in told if word not in used], name)


if __name__ == "__main__":
    unittest.main()
