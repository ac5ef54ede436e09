"""How the package is written: what of ../shared/LANGUAGE.md can be seen in the syntax tree at a glance."""

import ast
import builtins
import os
import unittest

ROOT = os.path.dirname(os.path.dirname(os.path.abspath(__file__)))
PACKAGE = os.path.join(ROOT, "ringtables")
BUILTINS = set("""len range enumerate zip min max sum abs sorted reversed int str bool bytes list tuple dict set frozenset
    isinstance ord repr any all divmod pow Exception ValueError TypeError KeyError IndexError LookupError
    ZeroDivisionError ArithmeticError OverflowError RuntimeError NotImplementedError""".split())
METHODS = set("""append clear copy count endswith extend find get index insert items join keys pop remove replace reverse
    setdefault split splitlines startswith strip update values bit_length isascii isprintable""".split())
LIBRARY = {"math": {"gcd", "lcm", "isqrt", "comb", "perm", "factorial"},
           "itertools": {"product", "combinations", "permutations"}}
DUNDERS = {"__init__", "__eq__", "__str__", "__repr__", "__len__"}
# A list or dict at a file's top is read where it stands by these, or copied; each answers with no other name for it.
READING = set("len enumerate zip min max sum abs sorted reversed any all list tuple dict set".split())
READING_METHODS = set("copy count get index items keys values".split())
REFUSED = (ast.Global, ast.AsyncFunctionDef, ast.AsyncFor, ast.AsyncWith, ast.Await, ast.Div, ast.MatMult,
           ast.GeneratorExp, ast.Set, ast.SetComp, ast.Yield, ast.YieldFrom, ast.Try, ast.Starred)


def files():
    found = []
    for folder, inner, names in sorted(os.walk(PACKAGE)):
        inner[:] = [name for name in inner if name != "__pycache__"]
        found += [os.path.join(folder, name) for name in names]
    return found


def module_of(path):
    return os.path.relpath(path, ROOT)[:-3].replace(os.sep, ".")


def is_changeable(node):
    """Whether a value is seen to be a list or dict."""
    if isinstance(node, ast.Call):
        return isinstance(node.func, ast.Name) and node.func.id in ("list", "dict", "sorted")
    return isinstance(node, (ast.List, ast.Dict, ast.ListComp, ast.DictComp))


def changeable_names(tree):
    """The names at a file's top that have a list or dict."""
    return {target.id for node in tree.body if isinstance(node, ast.Assign) and is_changeable(node.value)
            for target in node.targets}


def is_read_in_place(node, parent, grandparent):
    """Whether a name that has a list or dict is only read, or copied, in the node around it."""
    if isinstance(parent, ast.Subscript):
        return parent.value is node and isinstance(parent.ctx, ast.Load) and not isinstance(parent.slice, ast.Slice)
    if isinstance(parent, ast.Compare):
        return all(isinstance(kind, (ast.In, ast.NotIn, ast.Eq, ast.NotEq)) for kind in parent.ops)
    if isinstance(parent, (ast.For, ast.comprehension)):
        return parent.iter is node
    if isinstance(parent, ast.Attribute):
        is_called = isinstance(grandparent, ast.Call) and grandparent.func is parent
        return is_called and parent.attr in READING_METHODS
    return isinstance(parent, ast.Call) and isinstance(parent.func, ast.Name) and parent.func.id in READING


def handed_on(tree, names):
    """The rows of a file in which one of the names, which have lists or dicts, is not just read."""
    above = {child: node for node in ast.walk(tree) for child in ast.iter_child_nodes(node)}
    return [node.lineno for node in ast.walk(tree)
            if isinstance(node, ast.Name) and node.id in names and not isinstance(node.ctx, ast.Store)
            and not is_read_in_place(node, above[node], above[above[node]])]


class Language(unittest.TestCase):
    def setUp(self):
        self.texts = {}
        self.trees = {}
        for path in files():
            with open(path, encoding="utf-8") as file:
                self.texts[path] = file.read()
            self.trees[path] = ast.parse(self.texts[path])

    def test_files(self):
        self.assertLessEqual(len(self.texts), 100)
        for path in self.texts:
            self.assertTrue(path.endswith(".py") and os.path.basename(path).islower(), path)
            self.assertIn(os.path.join(os.path.dirname(path), "__init__.py"), self.texts)

    def test_sizes(self):
        for path, text in self.texts.items():
            lines = text.split("\n")
            self.assertLess(len(lines), 400, path)
            self.assertLessEqual(max(len(line) for line in lines), 120, path)
            self.assertTrue(all(sign == "\n" or " " <= sign <= "~" for sign in text), path)
            for node in ast.walk(self.trees[path]):
                if isinstance(node, ast.FunctionDef):
                    self.assertLessEqual(node.end_lineno - node.lineno + 1, 40, node.name)

    def test_module_level(self):
        allowed = (ast.ImportFrom, ast.FunctionDef, ast.ClassDef, ast.Assign, ast.Expr)
        for path, tree in self.trees.items():
            bound = []
            for node in tree.body:
                self.assertIsInstance(node, allowed, path)
                if isinstance(node, ast.Expr):
                    self.assertIsInstance(node.value.value, str)
                elif isinstance(node, ast.ImportFrom):
                    bound += [item.name for item in node.names]
                elif isinstance(node, ast.Assign):
                    bound += [target.id for target in node.targets]
                else:
                    bound.append(node.name)
            self.assertEqual(len(bound), len(set(bound)), path)
            self.assertFalse(set(bound) & set(dir(builtins)), path)

    def test_no_list_or_dict_is_handed_on(self):
        """L15: one that stands at a file's top is read there, or copied."""
        self.assertIn("OPPOSITES", {name for tree in self.trees.values() for name in changeable_names(tree)})
        for path, tree in self.trees.items():
            names = changeable_names(tree)
            for node in tree.body:
                if isinstance(node, ast.ImportFrom) and node.module not in LIBRARY:
                    source = self.trees[os.path.join(ROOT, *node.module.split(".")) + ".py"]
                    names |= {item.name for item in node.names} & changeable_names(source)
                if isinstance(node, ast.Assign):
                    self.assertFalse([1 for inner in ast.walk(node.value)
                                      if inner is not node.value and is_changeable(inner)], path)
            self.assertEqual(handed_on(tree, names), [], path)

    def test_what_is_handed_on(self):
        """The check ahead sees each way to hand one on, and lets each way to read one pass."""
        for row in ("f(D)", "f(k=D)", "f(1, *D)", "return D", "x = D", "a, b = D", "''.join(D)", "xs.extend(D)",
                    "xs += D", "D[0] = 1", "del D[0]", "D[0] += 1", "D.update(x)", "D.append(1)", "D.pop()", "x = [D]",
                    "x = (1, D)", "x = D if a else b", "x = D or a", "f(dict(a) if a else D)", "x = D.get", "x = D[1:]",
                    "a.b(D)"):
            self.assertEqual(handed_on(ast.parse(f"def g():\n    {row}\n"), {"D"}), [2], row)
        for row in ("f(dict(D))", "f(list(D))", "x = D[0]", "f(D[k])", "x = a in D", "x = a not in D", "x = D == a",
                    "x = len(D)", "x = D.get(a)", "x = sorted(D)", "x = [a for a in D]", "x = D[a] if a in D else 0",
                    "x = [a for a, b in D.items()]", "x = D.copy()"):
            self.assertEqual(handed_on(ast.parse(f"def g():\n    {row}\n"), {"D"}), [], row)
        self.assertEqual(handed_on(ast.parse("D = {}\nE = D\nF = (1, D)\n"), {"D"}), [2, 3])

    def test_imports(self):
        names = {module_of(path) for path in self.trees}
        for path, tree in self.trees.items():
            text = self.texts[path]
            for node in ast.walk(tree):
                self.assertNotIsInstance(node, ast.Import, path)
                if not isinstance(node, ast.ImportFrom):
                    continue
                self.assertEqual(node.level, 0)
                for item in node.names:
                    self.assertIsNone(item.asname)
                    self.assertGreater(len([1 for name in ast.walk(tree) if isinstance(name, ast.Name)
                                            and name.id == item.name]), 0, (path, item.name))
                    if node.module in LIBRARY:
                        self.assertIn(item.name, LIBRARY[node.module])
                    else:
                        self.assertIn(node.module, names)
                        self.assertIn(item.name, self.defined(node.module), (path, item.name))
            self.assertNotIn("import *", text)

    def defined(self, module):
        tree = self.trees[os.path.join(ROOT, *module.split(".")) + ".py"]
        found = [node.name for node in tree.body if isinstance(node, (ast.FunctionDef, ast.ClassDef))]
        return found + [node.targets[0].id for node in tree.body if isinstance(node, ast.Assign)]

    def test_no_circles(self):
        after = {}
        for path, tree in self.trees.items():
            after[module_of(path)] = {node.module for node in tree.body if isinstance(node, ast.ImportFrom)}
        while after:
            free = [name for name in after if not after[name] & set(after)]
            self.assertTrue(free, after)
            after = {name: after[name] for name in after if name not in free}

    def test_nodes(self):
        for path, tree in self.trees.items():
            for node in ast.walk(tree):
                self.assertNotIsInstance(node, REFUSED, path)
                if isinstance(node, ast.Constant):
                    self.assertNotIsInstance(node.value, (float, complex))
                    if isinstance(node.value, str):
                        self.assertNotIn("%", node.value)
                if isinstance(node, ast.Compare):
                    for kind, other in zip(node.ops, node.comparators):
                        if isinstance(kind, (ast.Is, ast.IsNot)):
                            self.assertIn(getattr(other, "value", 0), (None, True, False))
                if isinstance(node, ast.FunctionDef) and node.name.startswith("__"):
                    self.assertIn(node.name, DUNDERS)

    def test_names(self):
        for path, tree in self.trees.items():
            bound = {item.name for node in tree.body if isinstance(node, ast.ImportFrom) for item in node.names}
            bound |= {node.name for node in tree.body if isinstance(node, ast.ClassDef)}
            for node in ast.walk(tree):
                if isinstance(node, ast.Name) and isinstance(node.ctx, ast.Store):
                    self.assertNotIn(node.id, bound, path)
                    self.assertFalse(hasattr(builtins, node.id), (path, node.id))
                if isinstance(node, ast.arg):
                    self.assertNotIn(node.arg, bound, path)
                    self.assertFalse(hasattr(builtins, node.arg), (path, node.arg))
                if isinstance(node, ast.Name) and hasattr(builtins, node.id):
                    self.assertIn(node.id, BUILTINS | {"property"}, path)

    def test_methods(self):
        for path, tree in self.trees.items():
            for node in ast.walk(tree):
                if isinstance(node, ast.Call) and isinstance(node.func, ast.Attribute):
                    self.assertIn(node.func.attr, METHODS, (path, node.func.attr))

    def test_each_function_says_what_it_does(self):
        for path, tree in self.trees.items():
            self.assertTrue(ast.get_docstring(tree), path)
            for node in tree.body:
                if isinstance(node, (ast.FunctionDef, ast.ClassDef)) and not node.name.startswith("_"):
                    self.assertTrue(ast.get_docstring(node), node.name)
