"""How the package is written: what of ../shared/LANGUAGE.md can be seen in the syntax tree at a glance."""

import ast
import builtins
import os
import unittest

ROOT = os.path.dirname(os.path.dirname(os.path.abspath(__file__)))
PACKAGE = os.path.join(ROOT, "ringtables")
BUILTINS = set("""len range enumerate zip min max sum abs sorted reversed int str bool bytes list tuple dict set frozenset
    isinstance ord repr any all divmod pow Exception ValueError TypeError KeyError IndexError LookupError
    ZeroDivisionError ArithmeticError OverflowError RuntimeError NotImplementedError""".split())
METHODS = set("""append clear copy count endswith extend find get index insert items join keys pop remove replace reverse
    setdefault split splitlines startswith strip update values bit_length isascii isprintable""".split())
LIBRARY = {"math": {"gcd", "lcm", "isqrt", "comb", "perm", "factorial"},
           "itertools": {"product", "combinations", "permutations"}}
DUNDERS = {"__init__", "__eq__", "__str__", "__repr__", "__len__"}
REFUSED = (ast.Global, ast.AsyncFunctionDef, ast.AsyncFor, ast.AsyncWith, ast.Await, ast.Div, ast.MatMult,
           ast.GeneratorExp, ast.Set, ast.SetComp, ast.Yield, ast.YieldFrom, ast.Try, ast.Starred)


def files():
    found = []
    for folder, inner, names in sorted(os.walk(PACKAGE)):
        inner[:] = [name for name in inner if name != "__pycache__"]
        found += [os.path.join(folder, name) for name in names]
    return found


def module_of(path):
    return os.path.relpath(path, ROOT)[:-3].replace(os.sep, ".")


class Language(unittest.TestCase):
    def setUp(self):
        self.texts = {}
        self.trees = {}
        for path in files():
            with open(path, encoding="utf-8") as file:
                self.texts[path] = file.read()
            self.trees[path] = ast.parse(self.texts[path])

    def test_files(self):
        self.assertLessEqual(len(self.texts), 100)
        for path in self.texts:
            self.assertTrue(path.endswith(".py") and os.path.basename(path).islower(), path)
            self.assertIn(os.path.join(os.path.dirname(path), "__init__.py"), self.texts)

    def test_sizes(self):
        for path, text in self.texts.items():
            lines = text.split("\n")
            self.assertLess(len(lines), 400, path)
            self.assertLessEqual(max(len(line) for line in lines), 120, path)
            self.assertTrue(all(sign == "\n" or " " <= sign <= "~" for sign in text), path)
            for node in ast.walk(self.trees[path]):
                if isinstance(node, ast.FunctionDef):
                    self.assertLessEqual(node.end_lineno - node.lineno + 1, 40, node.name)

    def test_module_level(self):
        allowed = (ast.ImportFrom, ast.FunctionDef, ast.ClassDef, ast.Assign, ast.Expr)
        for path, tree in self.trees.items():
            bound = []
            for node in tree.body:
                self.assertIsInstance(node, allowed, path)
                if isinstance(node, ast.Expr):
                    self.assertIsInstance(node.value.value, str)
                elif isinstance(node, ast.ImportFrom):
                    bound += [item.name for item in node.names]
                elif isinstance(node, ast.Assign):
                    bound += [target.id for target in node.targets]
                else:
                    bound.append(node.name)
            self.assertEqual(len(bound), len(set(bound)), path)
            self.assertFalse(set(bound) & set(dir(builtins)), path)

    def test_imports(self):
        names = {module_of(path) for path in self.trees}
        for path, tree in self.trees.items():
            text = self.texts[path]
            for node in ast.walk(tree):
                self.assertNotIsInstance(node, ast.Import, path)
                if not isinstance(node, ast.ImportFrom):
                    continue
                self.assertEqual(node.level, 0)
                for item in node.names:
                    self.assertIsNone(item.asname)
                    self.assertGreater(len([1 for name in ast.walk(tree) if isinstance(name, ast.Name)
                                            and name.id == item.name]), 0, (path, item.name))
                    if node.module in LIBRARY:
                        self.assertIn(item.name, LIBRARY[node.module])
                    else:
                        self.assertIn(node.module, names)
                        self.assertIn(item.name, self.defined(node.module), (path, item.name))
            self.assertNotIn("import *", text)

    def defined(self, module):
        tree = self.trees[os.path.join(ROOT, *module.split(".")) + ".py"]
        found = [node.name for node in tree.body if isinstance(node, (ast.FunctionDef, ast.ClassDef))]
        return found + [node.targets[0].id for node in tree.body if isinstance(node, ast.Assign)]

    def test_no_circles(self):
        after = {}
        for path, tree in self.trees.items():
            after[module_of(path)] = {node.module for node in tree.body if isinstance(node, ast.ImportFrom)}
        while after:
            free = [name for name in after if not after[name] & set(after)]
            self.assertTrue(free, after)
            after = {name: after[name] for name in after if name not in free}

    def test_nodes(self):
        for path, tree in self.trees.items():
            for node in ast.walk(tree):
                self.assertNotIsInstance(node, REFUSED, path)
                if isinstance(node, ast.Constant):
                    self.assertNotIsInstance(node.value, (float, complex))
                    if isinstance(node.value, str):
                        self.assertNotIn("%", node.value)
                if isinstance(node, ast.Compare):
                    for kind, other in zip(node.ops, node.comparators):
                        if isinstance(kind, (ast.Is, ast.IsNot)):
                            self.assertIn(getattr(other, "value", 0), (None, True, False))
                if isinstance(node, ast.FunctionDef) and node.name.startswith("__"):
                    self.assertIn(node.name, DUNDERS)

    def test_names(self):
        for path, tree in self.trees.items():
            bound = {item.name for node in tree.body if isinstance(node, ast.ImportFrom) for item in node.names}
            bound |= {node.name for node in tree.body if isinstance(node, ast.ClassDef)}
            for node in ast.walk(tree):
                if isinstance(node, ast.Name) and isinstance(node.ctx, ast.Store):
                    self.assertNotIn(node.id, bound, path)
                    self.assertFalse(hasattr(builtins, node.id), (path, node.id))
                if isinstance(node, ast.arg):
                    self.assertNotIn(node.arg, bound, path)
                    self.assertFalse(hasattr(builtins, node.arg), (path, node.arg))
                if isinstance(node, ast.Name) and hasattr(builtins, node.id):
                    self.assertIn(node.id, BUILTINS | {"property"}, path)

    def test_methods(self):
        for path, tree in self.trees.items():
            for node in ast.walk(tree):
                if isinstance(node, ast.Call) and isinstance(node.func, ast.Attribute):
                    self.assertIn(node.func.attr, METHODS, (path, node.func.attr))

    def test_each_function_says_what_it_does(self):
        for path, tree in self.trees.items():
            self.assertTrue(ast.get_docstring(tree), path)
            for node in tree.body:
                if isinstance(node, (ast.FunctionDef, ast.ClassDef)) and not node.name.startswith("_"):
                    self.assertTrue(ast.get_docstring(node), node.name)
