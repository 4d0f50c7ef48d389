"""Part of the rules of the language that the package keeps to; the rest is left to readers."""

import ast
import builtins
import unittest
from pathlib import Path

PACKAGE = Path(__file__).resolve().parent.parent / "coilnets"
BUILTINS = set("""len range enumerate zip min max sum abs sorted reversed int str bool bytes list tuple dict set frozenset
    isinstance ord repr any all divmod Exception ValueError TypeError KeyError IndexError LookupError ZeroDivisionError
    ArithmeticError OverflowError RuntimeError NotImplementedError AttributeError StopIteration NotImplemented
    super property staticmethod classmethod iter next""".split())
LIBRARY = {"math": {"gcd", "lcm", "isqrt", "comb", "perm", "factorial"}}
NEVER_ALLOWED = (ast.Global, ast.AsyncFunctionDef, ast.AsyncFor, ast.AsyncWith, ast.Await, ast.Div, ast.MatMult)


def files():
    return sorted(path for path in PACKAGE.iterdir() if path.name != "__pycache__")


def trees():
    return [(path.name, ast.parse(path.read_text(encoding="ascii"))) for path in files()]


def nodes(kind):
    return [(name, node) for name, tree in trees() for node in ast.walk(tree) if isinstance(node, kind)]


def bound_names(function):
    """The names that a function binds, its parameters among them."""
    for node in ast.walk(function):
        if isinstance(node, ast.arg):
            yield node.arg
        elif isinstance(node, ast.Name) and isinstance(node.ctx, ast.Store):
            yield node.id
        elif isinstance(node, ast.FunctionDef):
            yield node.name


class Language(unittest.TestCase):

    def test_files(self):
        for path in files():
            self.assertRegex(path.name, r"^[a-z_]+\.py$")
            text = path.read_text(encoding="ascii")
            self.assertTrue(set(text) <= {chr(k) for k in range(32, 127)} | {"\n"}, path.name)
            lines = text.splitlines()
            self.assertLessEqual(len(lines), 399, path.name)
            self.assertLessEqual(max(map(len, lines)), 120, path.name)

    def test_functions_are_small(self):
        for file, node in nodes(ast.FunctionDef):
            self.assertLessEqual(node.end_lineno - node.lineno + 1, 40, (file, node.name))
            for decorator in node.decorator_list:
                self.assertIn(ast.unparse(decorator), ("property", "staticmethod", "classmethod"), (file, node.name))

    def test_module_level(self):
        for file, tree in trees():
            for node in tree.body:
                plain = isinstance(node, ast.Expr) and isinstance(node.value, ast.Constant)
                kinds = (ast.ImportFrom, ast.FunctionDef, ast.ClassDef, ast.Assign)
                self.assertTrue(plain or isinstance(node, kinds), (file, node.lineno))

    def test_imports(self):
        names = {path.stem: {node.name for node in ast.parse(path.read_text()).body
                             if isinstance(node, (ast.FunctionDef, ast.ClassDef))} for path in files()}
        constants = {path.stem: {target.id for node in ast.parse(path.read_text()).body if isinstance(node, ast.Assign)
                                 for target in node.targets} for path in files()}
        used = {}
        for file, node in nodes((ast.Import, ast.ImportFrom)):
            self.assertIsInstance(node, ast.ImportFrom, file)
            self.assertEqual(node.level, 0, file)
            imported = {alias.name for alias in node.names if alias.asname is None}
            self.assertEqual(len(imported), len(node.names), file)
            if node.module in LIBRARY:
                self.assertLessEqual(imported, LIBRARY[node.module], file)
                continue
            package, module = node.module.split(".")
            self.assertEqual(package, "coilnets", file)
            self.assertLessEqual(imported, names[module] | constants[module], file)
            used.setdefault(file[:-3], set()).add(module)
        while used:
            ends = [file for file, modules in used.items() if not modules & set(used)]
            self.assertTrue(ends, f"files import from each other: {sorted(used)}")
            for file in ends:
                del used[file]

    def test_every_import_is_used(self):
        for file, tree in trees():
            imported = {alias.name for node in tree.body if isinstance(node, ast.ImportFrom) for alias in node.names}
            read = {node.id for node in ast.walk(tree) if isinstance(node, ast.Name)}
            self.assertLessEqual(imported, read, file)

    def test_names(self):
        for file, tree in trees():
            taken = set(dir(builtins)) | {
                alias.name for node in tree.body if isinstance(node, ast.ImportFrom) for alias in node.names}
            taken |= {node.name for node in tree.body if isinstance(node, ast.ClassDef)}
            for node in ast.walk(tree):
                if isinstance(node, ast.FunctionDef):
                    self.assertEqual(set(bound_names(node)) & taken, set(), (file, node.name))
            at_top = [node.name for node in tree.body if isinstance(node, (ast.FunctionDef, ast.ClassDef))]
            at_top += [target.id for node in tree.body if isinstance(node, ast.Assign) for target in node.targets]
            self.assertEqual(len(at_top), len(set(at_top)), file)

    def test_builtins(self):
        barred = set(dir(builtins)) - BUILTINS
        for file, node in nodes(ast.Name):
            self.assertNotIn(node.id, barred, (file, node.lineno))

    def test_signs_and_statements(self):
        self.assertEqual(nodes(NEVER_ALLOWED), [])
        for file, node in nodes(ast.BinOp):
            if isinstance(node.op, ast.Pow):
                self.assertIsInstance(node.right, ast.Constant, (file, node.lineno))
                self.assertIn(node.right.value, range(65), (file, node.lineno))
        for file, node in nodes(ast.Constant):
            self.assertNotIsInstance(node.value, (float, complex), (file, node.lineno))
        for file, node in nodes(ast.Compare):
            for sign, side in zip(node.ops, node.comparators):
                if isinstance(sign, (ast.Is, ast.IsNot)):
                    self.assertIsInstance(side, ast.Constant, (file, node.lineno))

    def test_generators_stand_in_none(self):
        """A class with == bars them from any, all, sum and the like: lists are taken throughout."""
        self.assertEqual(nodes((ast.GeneratorExp, ast.Yield, ast.YieldFrom)), [])

    def test_methods_that_change_nothing(self):
        """Operators, properties, == and len assign nothing and call next to nothing."""
        changing = (ast.Assign, ast.AugAssign, ast.AnnAssign, ast.Delete, ast.For, ast.While, ast.With, ast.NamedExpr)
        for file, node in nodes(ast.FunctionDef):
            special = node.name.startswith("__") and node.name != "__init__"
            if special or node.decorator_list:
                for inner in ast.walk(node):
                    self.assertNotIsInstance(inner, changing, (file, node.name))
                    if isinstance(inner, ast.Call):
                        self.assertIn(ast.unparse(inner.func), ("len", "isinstance", "tuple"), (file, node.name))
        self.assertEqual([node.attr for _, node in nodes(ast.Attribute) if node.attr == "sort"], [])


if __name__ == "__main__":
    unittest.main()
