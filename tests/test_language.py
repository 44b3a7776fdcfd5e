"""The rules for the package's text that a reader of its syntax tree can see."""

import ast
import builtins
import unittest
from pathlib import Path

PACKAGE = Path(__file__).resolve().parent.parent / "scanranges"
LIBRARY = {
    "heapq": {"heappush", "heappop", "heapify", "heapreplace", "heappushpop"},
    "math": {"gcd", "lcm", "isqrt", "comb", "perm", "factorial"},
    "itertools": {"product", "combinations", "permutations", "chain", "accumulate", "pairwise", "islice",
                  "zip_longest"},
    "collections": {"defaultdict", "deque"},
}
DECORATORS = {"property", "staticmethod", "classmethod"}
BARRED_CALLS = {
    "open", "input", "print", "eval", "exec", "compile", "globals", "locals", "vars", "dir", "id", "hash", "format",
    "round", "filter", "slice", "object", "float", "complex", "bytearray", "memoryview", "chr", "bytes", "callable",
    "delattr", "help", "hex", "bin", "oct", "ascii", "breakpoint", "issubclass",
}
BARRED_NODES = (ast.AsyncFunctionDef, ast.Await, ast.AsyncFor, ast.AsyncWith, ast.Div, ast.MatMult, ast.GeneratorExp,
                ast.Global, ast.NamedExpr)
# Names that no variable, function, class, parameter or method has.
BARRED_NAMES = {
    "mro", "elements", "open", "input", "law", "version_info", "with_traceback", "add_note", "register", "attrgetter",
    "breakpoint", "builtins", "compile", "copyright", "credits", "delattr", "dir", "eval", "exec", "exit", "gc",
    "globals", "help", "id", "importlib", "license", "locals", "methodcaller", "os", "quit", "super", "vars", "sys",
}
VALUE_METHODS = set("""append clear copy count endswith extend find get index insert isalnum isalpha isdigit islower
isspace isupper items join keys ljust lower lstrip partition pop remove replace reverse rfind rjust rpartition rsplit
rstrip setdefault split splitlines startswith strip update upper values zfill bit_length""".split())
BARRED_ATTRIBUTES = {"items", "keys", "values", "pop", "update", "append", "clear", "extend", "insert", "remove",
                     "reverse", "setdefault", "sort", "args", "encode", "decode", "hex", "fromhex", "format"}


def files():
    return sorted(PACKAGE.rglob("*.py"))


class Language(unittest.TestCase):
    def each_node(self, *kinds):
        for path in files():
            for node in ast.walk(ast.parse(path.read_text())):
                if isinstance(node, kinds):
                    yield f"{path.name}:{getattr(node, 'lineno', 0)}", node

    def test_there_are_files(self):
        names = [path.name for path in files()]
        for name in ("__init__", "errors", "valuesets", "boxes", "ranges", "orders", "common", "gaps", "diagrams",
                     "tables", "sorting", "stores", "texts", "session"):
            self.assertIn(f"{name}.py", names)
        others = [path for path in PACKAGE.rglob("*") if path.is_file() and path.suffix not in (".py", ".pyc")]
        self.assertEqual(others, [])

    def test_lines_and_characters(self):
        for path in files():
            text = path.read_bytes().decode("ascii")
            self.assertLessEqual(len(text.splitlines()), 399, path.name)
            self.assertLessEqual(max([len(line) for line in text.splitlines()]), 120, path.name)
            self.assertTrue(all([" " <= sign <= "~" or sign == "\n" for sign in text]), path.name)

    def test_length_of_functions(self):
        for place, node in self.each_node(ast.FunctionDef):
            self.assertLessEqual(node.end_lineno - node.lineno + 1, 40, place)

    def test_imports(self):
        for place, node in self.each_node(ast.Import, ast.ImportFrom):
            self.assertIsInstance(node, ast.ImportFrom, place)
            self.assertEqual(node.level, 0, place)
            names = {alias.name for alias in node.names}
            if node.module in LIBRARY:
                self.assertLessEqual(names, LIBRARY[node.module], place)
            else:
                self.assertTrue(node.module.startswith("scanranges."), place)
                text = PACKAGE.parent.joinpath(*node.module.split(".")).with_suffix(".py").read_text()
                self.assertLessEqual(names, self.defined(ast.parse(text)), place)

    def defined(self, tree):
        found = set()
        for node in tree.body:
            if isinstance(node, (ast.FunctionDef, ast.ClassDef)):
                found.add(node.name)
            elif isinstance(node, ast.Assign):
                found.add(node.targets[0].id)
        return found

    def test_signs_and_statements(self):
        for place, node in self.each_node(*BARRED_NODES):
            self.fail(f"{place}: {type(node).__name__}")

    def test_constants(self):
        for place, node in self.each_node(ast.Constant):
            self.assertNotIsInstance(node.value, (float, complex), place)
            if isinstance(node.value, str):
                self.assertNotIn("%", node.value, place)

    def test_is(self):
        for place, node in self.each_node(ast.Compare):
            for sign, right in zip(node.ops, node.comparators):
                if isinstance(sign, (ast.Is, ast.IsNot)):
                    self.assertIsInstance(right, ast.Constant, place)
                    self.assertIn(right.value, (None, True, False), place)

    def test_calls(self):
        for place, node in self.each_node(ast.Call):
            if isinstance(node.func, ast.Name):
                self.assertNotIn(node.func.id, BARRED_CALLS, place)

    def test_decorators(self):
        for place, node in self.each_node(ast.FunctionDef, ast.ClassDef):
            for one in node.decorator_list:
                self.assertIsInstance(one, (ast.Name, ast.Attribute), place)
                self.assertIn(one.id if isinstance(one, ast.Name) else one.attr, DECORATORS | {"setter"}, place)

    def test_no_two_files_import_from_each_other(self):
        told = {}
        for path in files():
            nodes = [node for node in ast.walk(ast.parse(path.read_text())) if isinstance(node, ast.ImportFrom)]
            told[f"scanranges.{path.stem}"] = [node.module for node in nodes if node.module.startswith("scanranges.")]
        left = dict(told)
        while left:
            free = [name for name, wanted in left.items() if not any([one in left for one in wanted])]
            self.assertTrue(free, sorted(left))
            for name in free:
                del left[name]

    def test_each_import_is_used_and_each_name_is_known(self):
        for path in files():
            tree = ast.parse(path.read_text())
            imported = [alias.name for node in ast.walk(tree) if isinstance(node,
                                                                            ast.ImportFrom) for alias in node.names]
            names = [node for node in ast.walk(tree) if isinstance(node, ast.Name)]
            read = {node.id for node in names if isinstance(node.ctx, ast.Load)}
            self.assertLessEqual(set(imported), read, path.name)
            known = self.bound(tree) | set(imported) | set(dir(builtins))
            self.assertLessEqual(read, known, path.name)

    def bound(self, tree):
        found = set()
        for node in ast.walk(tree):
            if isinstance(node, ast.Name) and isinstance(node.ctx, ast.Store):
                found.add(node.id)
            elif isinstance(node, (ast.FunctionDef, ast.ClassDef)):
                found.add(node.name)
            elif isinstance(node, ast.arg):
                found.add(node.arg)
            elif isinstance(node, ast.ExceptHandler) and node.name:
                found.add(node.name)
        return found

    def test_names(self):
        for path in files():
            tree = ast.parse(path.read_text())
            imported = {alias.name for node in ast.walk(tree) if isinstance(node,
                                                                            ast.ImportFrom) for alias in node.names}
            methods = {one.name for node in ast.walk(tree) if isinstance(node, ast.ClassDef) for one in node.body
                       if isinstance(one, ast.FunctionDef)}
            found = self.bound(tree)
            for name in found:
                self.assertTrue(name.isascii() and name not in BARRED_NAMES, (path.name, name))
                self.assertFalse(name.startswith("__") and name not in methods, (path.name, name))
            self.assertFalse((found - methods) & (imported | set(dir(builtins))), path.name)

    def test_classes(self):
        for place, node in self.each_node(ast.ClassDef):
            self.assertTrue(node.name[0].isalpha(), place)
            self.assertLessEqual(len(node.bases), 1, place)

    def test_module_level(self):
        for path in files():
            for node in ast.parse(path.read_text()).body:
                docstring = isinstance(node, ast.Expr) and isinstance(node.value, ast.Constant)
                plain = isinstance(node, ast.Assign) and len(node.targets) == 1 and isinstance(node.targets[0],
                                                                                               ast.Name)
                self.assertTrue(docstring or plain or isinstance(node, (ast.ImportFrom, ast.FunctionDef, ast.ClassDef)),
                                (path.name, node.lineno))
                if plain:
                    self.assertFalse([one for one in ast.walk(node) if isinstance(one, ast.Call)], path.name)

    def test_methods_and_attributes(self):
        own = set()
        for _, node in self.each_node(ast.ClassDef):
            own.update([one.name for one in node.body if isinstance(one, ast.FunctionDef)])
        for place, node in self.each_node(ast.Call):
            if isinstance(node.func, ast.Attribute):
                self.assertIn(node.func.attr, VALUE_METHODS | own | {"__init__"}, place)
        for place, node in self.each_node(ast.Attribute):
            if isinstance(node.ctx, ast.Store):
                self.assertNotIn(node.attr, BARRED_ATTRIBUTES | own, place)

    def test_sets_are_not_stored(self):
        for place, node in self.each_node(ast.Assign):
            self.assertNotIsInstance(node.value, (ast.Set, ast.SetComp), place)
            if isinstance(node.value, ast.Call) and isinstance(node.value.func, ast.Name):
                self.assertNotEqual(node.value.func.id, "set", place)

    def test_caught_errors_are_named(self):
        for place, node in self.each_node(ast.ExceptHandler):
            self.assertIsNotNone(node.type, place)


if __name__ == "__main__":
    unittest.main()
