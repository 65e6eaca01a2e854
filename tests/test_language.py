"""Checks of the language that the package is written in, as far as a test sees them."""

import ast
import builtins
import pathlib
import re
import unittest

PACKAGE = pathlib.Path(__file__).resolve().parent.parent / "creepclocks"
BUILTINS = ("len range enumerate zip min max sum abs sorted reversed int str bool list tuple dict set isinstance ord "
            "repr any all divmod property staticmethod classmethod super NotImplemented ValueError IndexError "
            "LookupError ArithmeticError TypeError KeyError").split()
# A console, and doctest too, leaves its last value as a builtin called _.
PYTHON_NAMES = [name for name in dir(builtins) if name != "_"]
LIBRARY = {"math": ("gcd", "lcm", "isqrt", "comb", "perm", "factorial")}
SPECIAL = ("__init__ __eq__ __repr__ __str__ __len__ __enter__ __exit__ __call__ __iter__ __add__ __sub__ __mul__ "
           "__xor__ __and__ __or__ __neg__ __invert__ __contains__ __lt__ __bool__").split()
METHODS = ("append clear copy count endswith extend find get index insert isdigit items join keys lower partition pop "
           "remove replace reverse rfind rpartition rsplit setdefault split splitlines startswith strip update upper "
           "values bit_length").split()
WORDS = "typing enum dataclass namedtuple register elements mro law _wall".split()
REFUSED = (ast.Global, ast.AsyncFunctionDef, ast.Await, ast.GeneratorExp, ast.Match, ast.Div, ast.Set)
PLAIN = (ast.Constant, ast.Tuple, ast.List, ast.Dict, ast.UnaryOp, ast.USub, ast.Load)


def files():
    return sorted(PACKAGE.rglob("*.py"))


def trees():
    return [(path.name, ast.parse(path.read_text())) for path in files()]


def bound_names(function):
    """The parameters and the local variables of a function."""
    found = [node.arg for node in ast.walk(function.args) if isinstance(node, ast.arg)]
    for node in ast.walk(function):
        if isinstance(node, ast.Name) and isinstance(node.ctx, ast.Store):
            found.append(node.id)
    return found


def imported_names(tree):
    return [alias.name for node in tree.body if isinstance(node, ast.ImportFrom) for alias in node.names]


class FilesTest(unittest.TestCase):
    def test_only_python_files(self):
        for path in PACKAGE.rglob("*"):
            if "__pycache__" not in path.parts and path.is_file():
                self.assertEqual(path.suffix, ".py", path)
                self.assertEqual(path.name, path.name.lower())

    def test_sizes_and_characters(self):
        for path in files():
            text = path.read_text()
            rows = text.split("\n")
            self.assertLessEqual(len(rows), 399, path)
            for at, line in enumerate(rows):
                self.assertLessEqual(len(line), 120, f"{path}:{at + 1}")
            self.assertTrue(all(letter == "\n" or " " <= letter <= "~" for letter in text), path)

    def test_functions_are_short(self):
        for name, tree in trees():
            for node in ast.walk(tree):
                if isinstance(node, ast.FunctionDef):
                    self.assertLessEqual(node.end_lineno - node.lineno + 1, 40, (name, node.name))

    def test_words(self):
        for path in files():
            words = re.findall("[A-Za-z_]+", path.read_text())
            for word in WORDS:
                self.assertNotIn(word, words, path)


class ImportsTest(unittest.TestCase):
    def test_forms(self):
        for name, tree in trees():
            for node in ast.walk(tree):
                self.assertNotIsInstance(node, ast.Import, name)
                if not isinstance(node, ast.ImportFrom):
                    continue
                self.assertIn(node, tree.body, name)
                for alias in node.names:
                    self.assertIsNone(alias.asname)
                    if node.module in LIBRARY:
                        self.assertIn(alias.name, LIBRARY[node.module])
                    else:
                        self.assertTrue(node.module.startswith("creepclocks."), node.module)

    def test_names_come_from_the_file_that_defines_them(self):
        defined = {}
        for name, tree in trees():
            bound = [node.name for node in tree.body if isinstance(node, (ast.FunctionDef, ast.ClassDef))]
            for node in tree.body:
                if isinstance(node, ast.Assign):
                    bound.extend(target.id for target in node.targets)
            defined["creepclocks." + name[:-3]] = bound
            self.assertEqual(len(bound), len(set(bound)), name)
        for name, tree in trees():
            for node in tree.body:
                if isinstance(node, ast.ImportFrom) and node.module not in LIBRARY:
                    for alias in node.names:
                        self.assertIn(alias.name, defined[node.module], (name, alias.name))

    def test_all_imports_are_used(self):
        for name, tree in trees():
            used = [node.id for node in ast.walk(tree) if isinstance(node, ast.Name)]
            for imported in imported_names(tree):
                self.assertIn(imported, used, name)

    def test_no_circles(self):
        needs = {name[:-3]: [node.module.split(".")[1] for node in tree.body
                             if isinstance(node, ast.ImportFrom) and node.module not in LIBRARY]
                 for name, tree in trees()}
        while needs:
            free = [name for name in needs if not any(other in needs for other in needs[name])]
            self.assertTrue(free, needs)
            needs = {name: needs[name] for name in needs if name not in free}


class CodeTest(unittest.TestCase):
    def test_module_level(self):
        for name, tree in trees():
            for at, node in enumerate(tree.body):
                if isinstance(node, ast.Expr):
                    self.assertEqual(at, 0, name)
                    self.assertIsInstance(node.value.value, str)
                elif isinstance(node, ast.Assign):
                    self.assertEqual(len(node.targets), 1)
                    above = [part.name for part in tree.body[:at] if isinstance(part, ast.FunctionDef)]
                    for part in ast.walk(node.value):
                        if isinstance(part, ast.Name):
                            self.assertIn(part.id, above, name)
                        else:
                            self.assertIsInstance(part, PLAIN, name)
                else:
                    self.assertIsInstance(node, (ast.ImportFrom, ast.FunctionDef, ast.ClassDef))

    def test_nothing_refused(self):
        for name, tree in trees():
            for node in ast.walk(tree):
                self.assertNotIsInstance(node, REFUSED, name)
                if isinstance(node, ast.Constant):
                    self.assertNotIsInstance(node.value, (float, complex))
                if isinstance(node, ast.BinOp) and isinstance(node.op, ast.Pow):
                    self.assertIsInstance(node.right, ast.Constant)
                if isinstance(node, ast.AugAssign):
                    self.assertIsInstance(node.value, ast.Constant)
                if isinstance(node, ast.Compare) and isinstance(node.ops[0], (ast.Is, ast.IsNot)):
                    self.assertIsInstance(node.comparators[0], ast.Constant)

    def test_handlers(self):
        own = [part.name for part in dict(trees())["errors.py"].body if isinstance(part, ast.ClassDef)]
        for name, tree in trees():
            for node in ast.walk(tree):
                if not isinstance(node, ast.Try):
                    continue
                self.assertEqual(node.orelse, [])
                for handler in node.handlers:
                    for part in handler.type.elts if isinstance(handler.type, ast.Tuple) else [handler.type]:
                        self.assertIn(part.id, own, name)
                for part in node.finalbody:
                    self.assertIsInstance(part, ast.Assign, name)
                    self.assertIsInstance(part.value, ast.Constant, name)

    def test_names_are_not_bound_anew(self):
        for name, tree in trees():
            classes = [node.name for node in tree.body if isinstance(node, ast.ClassDef)]
            barred = set(PYTHON_NAMES) | set(imported_names(tree)) | set(classes)
            for node in ast.walk(tree):
                if isinstance(node, ast.FunctionDef):
                    for word in bound_names(node):
                        self.assertNotIn(word, barred, (name, node.name))
                        self.assertFalse(word.startswith("__"))
            for node in tree.body:
                if isinstance(node, (ast.FunctionDef, ast.ClassDef)):
                    self.assertNotIn(node.name, PYTHON_NAMES)

    def test_builtins(self):
        for name, tree in trees():
            for node in ast.walk(tree):
                if isinstance(node, ast.Name) and node.id in PYTHON_NAMES:
                    self.assertIn(node.id, BUILTINS, (name, node.lineno))

    def test_called_methods(self):
        own = [node.name for _, tree in trees() for part in tree.body if isinstance(part, ast.ClassDef)
               for node in part.body if isinstance(node, ast.FunctionDef)]
        for name, tree in trees():
            for node in ast.walk(tree):
                if isinstance(node, ast.Call) and isinstance(node.func, ast.Attribute):
                    self.assertIn(node.func.attr, METHODS + own, (name, node.lineno))

    def test_classes(self):
        for name, tree in trees():
            for part in tree.body:
                if not isinstance(part, ast.ClassDef):
                    continue
                self.assertEqual(part.decorator_list, [])
                methods = [node.name for node in part.body if isinstance(node, ast.FunctionDef)]
                self.assertEqual(len(methods), len(set(methods)), part.name)
                stored = [node.attr for node in ast.walk(part)
                          if isinstance(node, ast.Attribute) and isinstance(node.ctx, ast.Store)]
                self.assertEqual(set(methods) & set(stored), set(), part.name)
                for method in methods:
                    if method.startswith("__"):
                        self.assertIn(method, SPECIAL)

    def test_no_name_is_a_method_and_an_attribute(self):
        classes = [part for _, tree in trees() for part in tree.body if isinstance(part, ast.ClassDef)]
        methods = {node.name for part in classes for node in part.body if isinstance(node, ast.FunctionDef)}
        stored = {node.attr for part in classes for node in ast.walk(part)
                  if isinstance(node, ast.Attribute) and isinstance(node.ctx, ast.Store)}
        self.assertEqual(methods & stored, set())

    def test_stars_in_calls_stand_over_names(self):
        for name, tree in trees():
            for node in ast.walk(tree):
                if isinstance(node, ast.Starred) and isinstance(node.ctx, ast.Load):
                    self.assertIsInstance(node.value, (ast.Name, ast.Attribute), (name, node.lineno))

    def test_plain_functions(self):
        for name, tree in trees():
            for node in ast.walk(tree):
                if isinstance(node, ast.FunctionDef):
                    for decorator in node.decorator_list:
                        self.assertIn(decorator.id, ("staticmethod", "classmethod", "property"), name)
                    self.assertIsNone(node.returns)

    def test_attributes_are_set_in_their_own_objects(self):
        for name, tree in trees():
            for node in ast.walk(tree):
                if isinstance(node, ast.Attribute) and isinstance(node.ctx, ast.Store):
                    self.assertEqual(node.value.id, "self", (name, node.lineno))


if __name__ == "__main__":
    unittest.main()
