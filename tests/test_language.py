"""The rules for the package's text that a reader of its syntax tree can see."""

import ast
import unittest
from pathlib import Path

PACKAGE = Path(__file__).resolve().parent.parent / "scanranges"
LIBRARY = {
    "heapq": {"heappush", "heappop", "heapify", "heapreplace", "heappushpop"},
    "math": {"gcd", "lcm", "isqrt", "comb", "perm", "factorial"},
    "itertools": {"product", "combinations", "permutations", "chain", "accumulate", "pairwise", "islice",
                  "zip_longest"},
    "collections": {"defaultdict", "deque"},
}
DECORATORS = {"property", "staticmethod", "classmethod"}
BARRED_CALLS = {
    "open", "input", "print", "eval", "exec", "compile", "globals", "locals", "vars", "dir", "id", "hash", "format",
    "round", "filter", "slice", "object", "float", "complex", "bytearray", "memoryview", "chr", "bytes", "callable",
    "delattr", "help", "hex", "bin", "oct", "ascii", "breakpoint", "issubclass",
}
BARRED_NODES = (ast.AsyncFunctionDef, ast.Await, ast.AsyncFor, ast.AsyncWith, ast.Div, ast.MatMult)


def files():
    return sorted(PACKAGE.rglob("*.py"))


class Language(unittest.TestCase):
    def each_node(self, *kinds):
        for path in files():
            for node in ast.walk(ast.parse(path.read_text())):
                if isinstance(node, kinds):
                    yield f"{path.name}:{getattr(node, 'lineno', 0)}", node

    def test_there_are_files(self):
        names = [path.name for path in files()]
        for name in ("__init__", "errors", "valuesets", "boxes", "ranges", "orders", "common", "gaps", "diagrams",
                     "tables"):
            self.assertIn(f"{name}.py", names)
        others = [path for path in PACKAGE.rglob("*") if path.is_file() and path.suffix not in (".py", ".pyc")]
        self.assertEqual(others, [])

    def test_lines_and_characters(self):
        for path in files():
            text = path.read_bytes().decode("ascii")
            self.assertLessEqual(len(text.splitlines()), 399, path.name)
            self.assertLessEqual(max([len(line) for line in text.splitlines()]), 120, path.name)
            self.assertTrue(all([" " <= sign <= "~" or sign == "\n" for sign in text]), path.name)

    def test_length_of_functions(self):
        for place, node in self.each_node(ast.FunctionDef):
            self.assertLessEqual(node.end_lineno - node.lineno + 1, 40, place)

    def test_imports(self):
        for place, node in self.each_node(ast.Import, ast.ImportFrom):
            self.assertIsInstance(node, ast.ImportFrom, place)
            self.assertEqual(node.level, 0, place)
            names = {alias.name for alias in node.names}
            if node.module in LIBRARY:
                self.assertLessEqual(names, LIBRARY[node.module], place)
            else:
                self.assertTrue(node.module.startswith("scanranges."), place)
                text = PACKAGE.parent.joinpath(*node.module.split(".")).with_suffix(".py").read_text()
                self.assertLessEqual(names, self.defined(ast.parse(text)), place)

    def defined(self, tree):
        found = set()
        for node in tree.body:
            if isinstance(node, (ast.FunctionDef, ast.ClassDef)):
                found.add(node.name)
            elif isinstance(node, ast.Assign):
                found.add(node.targets[0].id)
        return found

    def test_signs_and_statements(self):
        for place, node in self.each_node(*BARRED_NODES):
            self.fail(f"{place}: {type(node).__name__}")

    def test_constants(self):
        for place, node in self.each_node(ast.Constant):
            self.assertNotIsInstance(node.value, (float, complex), place)
            if isinstance(node.value, str):
                self.assertNotIn("%", node.value, place)

    def test_is(self):
        for place, node in self.each_node(ast.Compare):
            for sign, right in zip(node.ops, node.comparators):
                if isinstance(sign, (ast.Is, ast.IsNot)):
                    self.assertIsInstance(right, ast.Constant, place)
                    self.assertIn(right.value, (None, True, False), place)

    def test_calls(self):
        for place, node in self.each_node(ast.Call):
            if isinstance(node.func, ast.Name):
                self.assertNotIn(node.func.id, BARRED_CALLS, place)

    def test_decorators(self):
        for place, node in self.each_node(ast.FunctionDef, ast.ClassDef):
            for one in node.decorator_list:
                self.assertIsInstance(one, (ast.Name, ast.Attribute), place)
                self.assertIn(one.id if isinstance(one, ast.Name) else one.attr, DECORATORS | {"setter"}, place)

    def test_caught_errors_are_named(self):
        for place, node in self.each_node(ast.ExceptHandler):
            self.assertIsNotNone(node.type, place)


if __name__ == "__main__":
    unittest.main()
