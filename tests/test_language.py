"""The rules of the language that are easy to see from outside: names of files, sizes, imports, builtins."""

import ast
import builtins
import unittest
from pathlib import Path

PACKAGE = Path(__file__).resolve().parent.parent / "stirred"

LIBRARY = {"heapq", "math", "itertools", "collections"}

ALLOWED_BUILTINS = set("""
    len range enumerate zip min max sum abs sorted reversed int str bool bytes list tuple dict set frozenset isinstance
    ord repr any all divmod pow getattr hasattr setattr iter next map super type object property staticmethod
    classmethod Exception ValueError TypeError KeyError IndexError LookupError ZeroDivisionError ArithmeticError
    OverflowError RuntimeError NotImplementedError AttributeError StopIteration NotImplemented
""".split())

# Generator expressions: beside classes with an == of their own, any, all and their kin take lists.
BARRED = (ast.AsyncFunctionDef, ast.Await, ast.Div, ast.MatMult, ast.Import, ast.GeneratorExp)

INTERFACE_FILES = ["errors", "ratios", "mixtures", "vessels", "factors", "origins", "exchange", "spread", "alike",
                   "pairs", "labs", "trials", "text"]


def files():
    return sorted(path for path in PACKAGE.rglob("*") if "__pycache__" not in path.parts)


def trees():
    return [(path.name, ast.parse(path.read_text(encoding="ascii"))) for path in files()]


def nodes():
    return [(name, node) for name, tree in trees() for node in ast.walk(tree)]


class Language(unittest.TestCase):
    def test_the_folder_has_plain_files_alone(self):
        names = [path.name for path in files()]
        for path in files():
            self.assertTrue(path.is_file() and path.suffix == ".py" and path.stem == path.stem.lower(), path)
        for name in ["__init__"] + INTERFACE_FILES:
            self.assertIn(f"{name}.py", names)

    def test_characters_and_sizes(self):
        for path in files():
            lines = path.read_text(encoding="ascii").split("\n")
            self.assertLess(len(lines), 400, path)
            for line in lines:
                self.assertLessEqual(len(line), 120, (path, line))
                self.assertTrue(all(" " <= sign <= "~" for sign in line), (path, line))

    def test_functions_are_short(self):
        for name, node in nodes():
            if isinstance(node, ast.FunctionDef):
                self.assertLessEqual(node.end_lineno - node.lineno + 1, 40, (name, node.name))

    def test_imports(self):
        for name, node in nodes():
            if isinstance(node, ast.ImportFrom):
                self.assertEqual(node.level, 0, name)
                self.assertTrue(node.module in LIBRARY or node.module.startswith("stirred."), (name, node.module))
                self.assertTrue(all(alias.name != "*" and alias.asname is None for alias in node.names), name)

    def test_no_two_files_import_from_each_other(self):
        needs = {f"stirred.{name[:-3]}": {node.module for node in tree.body if isinstance(node, ast.ImportFrom)}
                 for name, tree in trees()}
        while needs:
            free = [name for name in needs if not needs[name] & set(needs)]
            self.assertTrue(free, needs)
            for name in free:
                del needs[name]

    def test_nothing_that_is_barred(self):
        for name, node in nodes():
            self.assertNotIsInstance(node, BARRED, name)
            if isinstance(node, ast.Constant):
                self.assertNotIsInstance(node.value, (float, complex), name)
            # An example that shows a value leaves it in the builtins as _.
            if isinstance(node, ast.Name) and node.id != "_" and hasattr(builtins, node.id):
                self.assertIn(node.id, ALLOWED_BUILTINS, name)

    def test_no_sign_of_the_rest_in_strings(self):
        for name, node in nodes():
            if isinstance(node, ast.Constant) and isinstance(node.value, str):
                self.assertNotIn("%", node.value, name)

    def test_module_level(self):
        for name, tree in trees():
            for at, node in enumerate(tree.body):
                docstring = at == 0 and isinstance(node, ast.Expr)
                kinds = (ast.ImportFrom, ast.FunctionDef, ast.ClassDef, ast.Assign)
                self.assertTrue(docstring or isinstance(node, kinds), (name, node.lineno))


if __name__ == "__main__":
    unittest.main()
