"""Checks of the package's files by those rules of ../shared/LANGUAGE.md that a short test can see."""

import ast
import builtins
import os
import unittest

ROOT = os.path.dirname(os.path.dirname(os.path.abspath(__file__)))
PACKAGE = "madesure"
LIBRARY = {"heapq": ("heappush", "heappop", "heapify", "heapreplace", "heappushpop"),
           "math": ("gcd", "lcm", "isqrt", "comb", "perm", "factorial"),
           "itertools": ("product", "combinations", "permutations", "chain", "accumulate", "pairwise", "islice",
                         "zip_longest"),
           "collections": ("defaultdict", "deque"), "__future__": ("annotations",)}
BUILTINS = """len range enumerate zip min max sum abs sorted reversed int str bool bytes list tuple dict set frozenset
isinstance ord repr any all divmod pow getattr hasattr setattr iter next map type super property staticmethod classmethod
Exception ValueError TypeError KeyError IndexError LookupError ZeroDivisionError ArithmeticError OverflowError
RuntimeError NotImplementedError AttributeError StopIteration NotImplemented""".split()
BARRED = (ast.AsyncFunctionDef, ast.AsyncFor, ast.AsyncWith, ast.Await, ast.Div, ast.MatMult, ast.Import)
METHODS = ("__init__", "__eq__", "__repr__", "__str__", "__len__", "__enter__", "__exit__", "__call__", "__iter__")
# The methods of builtin values that may be called.
BUILTIN_METHODS = """append clear copy count endswith extend find get index insert isalnum isalpha isdigit islower isspace
isupper items join keys ljust lower lstrip partition pop remove replace reverse rfind rjust rpartition rsplit rstrip
setdefault split splitlines startswith strip update upper values zfill bit_length add discard""".split()
FOLDED = ("all", "any", "min", "max", "sum", "sorted")


def package_files():
    rows = []
    for folder, folders, names in os.walk(os.path.join(ROOT, PACKAGE)):
        folders[:] = sorted(name for name in folders if name != "__pycache__")
        rows += [os.path.join(folder, name) for name in sorted(names)]
    return rows


def read(path):
    with open(path, "rb") as file:
        return file.read()


def docstrings(tree):
    """The nodes of all docstrings of a file."""
    holders = [node for node in ast.walk(tree)
               if isinstance(node, (ast.Module, ast.FunctionDef, ast.ClassDef)) and ast.get_docstring(node) is not None]
    return [node.body[0].value for node in holders]


def imported_names(nodes):
    return [alias.name for node in nodes if isinstance(node, ast.ImportFrom) for alias in node.names]


def defined_names(tree):
    """The names that a file defines at its top."""
    names = [row.name for row in tree.body if isinstance(row, (ast.FunctionDef, ast.ClassDef))]
    return names + [row.targets[0].id for row in tree.body if isinstance(row, ast.Assign)]


def bound_names(tree):
    """All names that are bound in any place."""
    nodes = list(ast.walk(tree))
    names = [node.id for node in nodes if isinstance(node, ast.Name) and not isinstance(node.ctx, ast.Load)]
    names += [node.arg for node in nodes if isinstance(node, ast.arg)]
    names += [node.name for node in nodes if isinstance(node, (ast.FunctionDef, ast.ClassDef))]
    names += [node.name for node in nodes if isinstance(node, ast.ExceptHandler) and node.name]
    return names + imported_names(nodes)


def parsed():
    """The name and the tree of each file of the package."""
    return [(os.path.relpath(path, ROOT), ast.parse(read(path))) for path in package_files()]


class LanguageTest(unittest.TestCase):

    def test_files_and_signs(self):
        for path in package_files():
            self.assertTrue(path.endswith(".py"), path)
            self.assertIn("__init__.py", os.listdir(os.path.dirname(path)))
            data = read(path)
            self.assertTrue(all(sign == 10 or 32 <= sign <= 126 for sign in data), path)
            self.assertLessEqual(data.count(b"\n"), 399, path)
            self.assertLessEqual(max(len(row) for row in data.split(b"\n")), 120, path)
            self.assertNotIn(b"_wall", data)

    def test_imports_name_the_file_that_defines(self):
        for path, tree in parsed():
            for node in [node for node in ast.walk(tree) if isinstance(node, ast.ImportFrom)]:
                names = [alias.name for alias in node.names]
                self.assertTrue(all(alias.asname is None for alias in node.names), path)
                self.assertEqual(node.level, 0, path)
                if node.module in LIBRARY:
                    self.assertTrue(set(names) <= set(LIBRARY[node.module]), (path, names))
                else:
                    self.assertTrue(node.module.startswith(PACKAGE + "."), (path, node.module))
                    other = ast.parse(read(os.path.join(ROOT, *node.module.split(".")) + ".py"))
                    self.assertTrue(set(names) <= set(defined_names(other)), (path, names))

    def test_functions_are_short(self):
        for path, tree in parsed():
            for node in ast.walk(tree):
                if isinstance(node, ast.FunctionDef):
                    self.assertLessEqual(node.end_lineno - node.lineno + 1, 40, (path, node.name))

    def test_names_are_plain_and_bound_once(self):
        for path, tree in parsed():
            names = [name for name in bound_names(tree) if name not in METHODS]
            self.assertEqual([name for name in names if name.startswith("__")], [], path)
            self.assertEqual([name for name in names if name in dir(builtins)], [], path)
            top = defined_names(tree) + imported_names(tree.body)
            self.assertEqual(len(top), len(set(top)), path)
            taken = imported_names(tree.body) + [row.name for row in tree.body if isinstance(row, ast.ClassDef)]
            functions = [node for node in ast.walk(tree) if isinstance(node, ast.FunctionDef)]
            inner = [name for row in functions for name in bound_names(row) if name != row.name]
            self.assertEqual([name for name in inner if name in taken], [], path)

    def test_only_builtins_of_the_subset(self):
        for path, tree in parsed():
            known = bound_names(tree) + BUILTINS
            used = [node.id for node in ast.walk(tree) if isinstance(node, ast.Name)]
            self.assertEqual([name for name in used if name not in known], [], path)

    def test_no_statements_or_values_beyond_the_subset(self):
        for path, tree in parsed():
            for node in ast.walk(tree):
                self.assertFalse(isinstance(node, BARRED), (path, ast.dump(node)))
                self.assertFalse(isinstance(node, ast.Constant) and isinstance(node.value, (float, complex)), path)
                self.assertFalse(isinstance(node, ast.ExceptHandler) and node.type is None, path)
                if isinstance(node, ast.Call) and isinstance(node.func, ast.Name) and node.func.id in FOLDED:
                    # Where a class has an == of its own, these take lists.
                    self.assertFalse([part for part in node.args if isinstance(part, ast.GeneratorExp)], path)

    def test_strings(self):
        for path, tree in parsed():
            told = docstrings(tree)
            for node in ast.walk(tree):
                if isinstance(node, ast.Constant) and isinstance(node.value, str) and node not in told:
                    self.assertNotIn("%", node.value, path)
                    self.assertFalse(node.value.endswith(("._", ".__")), path)

    def test_methods_and_attributes(self):
        classes = [node for _, tree in parsed() for node in ast.walk(tree) if isinstance(node, ast.ClassDef)]
        methods = {row.name for node in classes for row in node.body if isinstance(row, ast.FunctionDef)}
        stored = set()
        for node in classes:
            own = {inner.attr for inner in ast.walk(node)
                   if isinstance(inner, ast.Attribute) and isinstance(inner.ctx, ast.Store)}
            self.assertEqual(own & {row.name for row in node.body if isinstance(row, ast.FunctionDef)}, set(), node.name)
            stored |= own
        self.assertEqual(stored & set(BUILTIN_METHODS), set())
        for path, tree in parsed():
            called = [node.func for node in ast.walk(tree) if isinstance(node, ast.Call)]
            for node in ast.walk(tree):
                if isinstance(node, ast.Attribute) and isinstance(node.ctx, ast.Load):
                    known = methods | set(BUILTIN_METHODS) if node in called else stored
                    self.assertIn(node.attr, known, path)

    def test_tables_of_functions_are_not_called_where_they_stand(self):
        for path, tree in parsed():
            for node in ast.walk(tree):
                if isinstance(node, ast.Call):
                    self.assertIsInstance(node.func, (ast.Name, ast.Attribute), path)

    def test_tests_stand_beside_the_package(self):
        for path in package_files():
            self.assertNotIn("test", os.path.basename(path))


if __name__ == "__main__":
    unittest.main()
