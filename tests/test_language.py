"""Point 1, and those rules of the language that a glance at the files can tell."""

import ast
import builtins
import unittest
from pathlib import Path

PACKAGE = Path(__file__).resolve().parent.parent / "hedgejoin"
LIBRARY = {
    "heapq": {"heappush", "heappop", "heapify", "heapreplace", "heappushpop"},
    "math": {"gcd", "lcm", "isqrt", "comb", "perm", "factorial"},
    "itertools": {"chain", "accumulate", "pairwise", "islice", "zip_longest"},
    "collections": {"defaultdict"},
}
BUILTINS = {
    "len", "range", "enumerate", "zip", "min", "max", "sum", "abs", "sorted", "reversed", "int",
    "str", "bool", "bytes", "list", "tuple", "dict", "set", "frozenset", "isinstance", "ord",
    "repr", "any", "all", "divmod", "pow", "getattr", "hasattr", "setattr", "iter", "next", "map",
    "Exception", "ValueError", "TypeError", "KeyError", "IndexError", "LookupError",
    "ZeroDivisionError", "ArithmeticError", "OverflowError", "RuntimeError",
    "NotImplementedError", "AttributeError", "StopIteration", "NotImplemented", "super", "property",
}


def files():
    return sorted(PACKAGE.rglob("*.py"))


def trees():
    return [(path, ast.parse(path.read_text())) for path in files()]


def builtin_names():
    # The examples' tests leave their last value in `_`, which is a plain name here.
    return set(dir(builtins)) - {"_"}


class TestLanguage(unittest.TestCase):
    def test_imports(self):
        for path, tree in trees():
            for node in ast.walk(tree):
                self.assertNotIsInstance(node, ast.Import, path)
                if isinstance(node, ast.ImportFrom) and not node.module.startswith("hedgejoin."):
                    allowed = LIBRARY.get(node.module, set())
                    self.assertLessEqual({name.name for name in node.names}, allowed, path)

    def test_no_two_files_import_from_each_other(self):
        sources = {
            f"hedgejoin.{path.stem}": {node.module for node in tree.body if isinstance(node, ast.ImportFrom)}
            for path, tree in trees()
        }
        waiting = dict(sources)
        while waiting:
            free = [name for name, needed in waiting.items() if not needed & set(waiting)]
            self.assertTrue(free, sorted(waiting))
            waiting = {name: needed for name, needed in waiting.items() if name not in free}

    def test_imported_names_are_defined_where_they_are_imported_from(self):
        defined = {}
        for path, tree in trees():
            names = {node.name for node in tree.body if isinstance(node, (ast.FunctionDef, ast.ClassDef))}
            names |= {target.id for node in tree.body if isinstance(node, ast.Assign) for target in node.targets}
            defined[f"hedgejoin.{path.stem}"] = names
        for path, tree in trees():
            for node in tree.body:
                if isinstance(node, ast.ImportFrom) and node.module in defined:
                    self.assertLessEqual({name.name for name in node.names}, defined[node.module], path)

    def test_only_listed_builtins(self):
        names = builtin_names()
        for path, tree in trees():
            used = {node.id for node in ast.walk(tree) if isinstance(node, ast.Name)}
            self.assertLessEqual(used & names, BUILTINS, path)

    def test_no_builtin_gets_another_meaning(self):
        names = builtin_names()
        for path, tree in trees():
            for node in ast.walk(tree):
                if isinstance(node, ast.Name) and not isinstance(node.ctx, ast.Load):
                    self.assertNotIn(node.id, names, path)
                if isinstance(node, ast.arg):
                    self.assertNotIn(node.arg, names, path)
                if isinstance(node, (ast.FunctionDef, ast.ClassDef)):
                    self.assertNotIn(node.name, names, path)

    def test_no_local_name_is_that_of_a_class_or_an_import(self):
        for path, tree in trees():
            bound = {node.name for node in tree.body if isinstance(node, ast.ClassDef)}
            for node in tree.body:
                if isinstance(node, ast.ImportFrom):
                    bound |= {name.name for name in node.names}
            for function in ast.walk(tree):
                if isinstance(function, ast.FunctionDef):
                    for node in ast.walk(function):
                        if isinstance(node, ast.Name) and not isinstance(node.ctx, ast.Load):
                            self.assertNotIn(node.id, bound, path)
                        if isinstance(node, ast.arg):
                            self.assertNotIn(node.arg, bound, path)

    def test_sizes_and_signs(self):
        for path, tree in trees():
            text = path.read_text()
            lines = text.split("\n")
            self.assertLessEqual(len(lines) - 1, 399, path)
            self.assertLessEqual(max(len(line) for line in lines), 120, path)
            self.assertTrue(all(sign == "\n" or " " <= sign <= "~" for sign in text), path)
            for node in ast.walk(tree):
                if isinstance(node, ast.FunctionDef):
                    self.assertLessEqual(node.end_lineno - node.lineno + 1, 40, node.name)

    def test_no_floats_and_no_percent_signs(self):
        for path, tree in trees():
            for node in ast.walk(tree):
                self.assertNotIsInstance(node, (ast.Div, ast.Global), path)
                if isinstance(node, ast.Constant):
                    self.assertNotIsInstance(node.value, (float, complex), path)
                    if isinstance(node.value, str):
                        self.assertNotIn("%", node.value, path)

    def test_no_state_at_module_level(self):
        for path, tree in trees():
            for node in tree.body:
                allowed = (ast.Expr, ast.ImportFrom, ast.FunctionDef, ast.ClassDef, ast.Assign)
                self.assertIsInstance(node, allowed, path)


if __name__ == "__main__":
    unittest.main()
