"""The package keeps to the rules of ../shared/LANGUAGE.md that a short test can see."""

import ast
import unittest
from pathlib import Path

PACKAGE = Path(__file__).resolve().parent.parent / "pairahead"
FILES = sorted(PACKAGE.rglob("*.py"))
# No heaps and no products: the package has classes that compare, and one that is iterated over and has a length.
LIBRARY = {"math": {"gcd", "lcm", "isqrt", "comb", "perm", "factorial"}, "__future__": {"annotations"}}
BUILTINS = set(
    "len range enumerate zip min max sum abs sorted reversed int str bool bytes list tuple dict set frozenset isinstance"
    " ord repr any all divmod iter next map super staticmethod classmethod property Exception ValueError TypeError"
    " KeyError IndexError LookupError ZeroDivisionError ArithmeticError OverflowError RuntimeError NotImplementedError"
    " AttributeError StopIteration NotImplemented".split()
)
DOUBLE = set(
    "init eq repr str len enter exit call iter lt le gt ge ne add sub mul floordiv mod pow and or xor lshift rshift"
    " radd rsub rmul rfloordiv rmod rand ror rxor neg pos invert abs bool contains getitem setitem".split()
)
BARRED = (ast.Global, ast.AsyncFunctionDef, ast.Import, ast.Await, ast.Div)


def trees():
    return [(path, ast.parse(path.read_text())) for path in FILES]


def bound_names(tree):
    """All names that a file binds anywhere."""
    names = set()
    for node in ast.walk(tree):
        if isinstance(node, ast.Name) and isinstance(node.ctx, ast.Store):
            names.add(node.id)
        elif isinstance(node, (ast.FunctionDef, ast.ClassDef)):
            names.add(node.name)
        elif isinstance(node, ast.arg):
            names.add(node.arg)
        elif isinstance(node, ast.alias):
            names.add(node.name)
    return names


class TestFiles(unittest.TestCase):
    def test_the_folder_holds_python_files_only(self):
        here = [path for path in PACKAGE.rglob("*") if path.is_file() and "__pycache__" not in path.parts]
        self.assertEqual(sorted(here), FILES)
        self.assertIn(PACKAGE / "__init__.py", FILES)

    def test_sizes_and_characters(self):
        for path in FILES:
            text = path.read_text()
            self.assertTrue(all(sign == "\n" or " " <= sign <= "~" for sign in text), path)
            lines = text.split("\n")
            self.assertLessEqual(len(lines), 400, path)
            self.assertLessEqual(max(len(line) for line in lines), 120, path)

    def test_functions_have_at_most_forty_lines(self):
        for path, tree in trees():
            for node in ast.walk(tree):
                if isinstance(node, ast.FunctionDef):
                    self.assertLessEqual(node.end_lineno - node.lineno + 1, 40, (path, node.name))


class TestCode(unittest.TestCase):
    def test_imports(self):
        for path, tree in trees():
            for node in ast.walk(tree):
                if isinstance(node, ast.ImportFrom):
                    self.assertEqual(node.level, 0, path)
                    for alias in node.names:
                        if node.module in LIBRARY:
                            self.assertIn(alias.name, LIBRARY[node.module], path)
                        else:
                            self.assertTrue(node.module.startswith("pairahead."), (path, node.module))
                            file = PACKAGE.parent / (node.module.replace(".", "/") + ".py")
                            defined = [part for part in ast.parse(file.read_text()).body
                                       if alias.name in bound_names(part)]
                            self.assertTrue(defined, (path, alias.name))

    def test_module_level(self):
        for path, tree in trees():
            for node in tree.body:
                plain = isinstance(node, (ast.ImportFrom, ast.FunctionDef, ast.ClassDef))
                text = isinstance(node, ast.Expr) and isinstance(node.value, ast.Constant)
                value = isinstance(node, ast.Assign) and isinstance(node.targets[0], ast.Name) and not [
                    part for part in ast.walk(node.value) if isinstance(part, (ast.Call, ast.comprehension))
                ]
                self.assertTrue(plain or text or value, (path, node.lineno))

    def test_names(self):
        for path, tree in trees():
            for name in bound_names(tree):
                if name.startswith("__"):
                    self.assertIn(name.strip("_"), DOUBLE, path)
                self.assertNotIn(name, BUILTINS - {"iter", "map"}, path)
            known = bound_names(tree) | BUILTINS
            for node in ast.walk(tree):
                if isinstance(node, ast.Name):
                    self.assertIn(node.id, known, (path, node.lineno))

    def test_statements_and_values(self):
        for path, tree in trees():
            for node in ast.walk(tree):
                self.assertNotIsInstance(node, BARRED, path)
                if isinstance(node, ast.Constant):
                    self.assertNotIsInstance(node.value, (float, complex), path)
                    if isinstance(node.value, str):
                        self.assertNotIn("%", node.value, (path, node.lineno))

    def test_what_classes_with_operators_forbid(self):
        for path, tree in trees():
            for node in ast.walk(tree):
                self.assertNotIsInstance(node, ast.GeneratorExp, (path, node))
                if isinstance(node, ast.Call) and isinstance(node.func, ast.Name):
                    if node.func.id in ("sorted", "min", "max"):
                        self.assertTrue(all(is_plain(part) for part in node.args), (path, node.lineno))
                elif isinstance(node, ast.Call) and isinstance(node.func, ast.Attribute):
                    self.assertNotEqual(node.func.attr, "sort", (path, node.lineno))

    def test_exits_only_assign(self):
        for path, tree in trees():
            for node in ast.walk(tree):
                if isinstance(node, ast.FunctionDef) and node.name == "__exit__":
                    for part in ast.walk(ast.Module(node.body, [])):
                        self.assertNotIsInstance(part, (ast.Call, ast.Subscript, ast.For, ast.BinOp), (path, node.lineno))

    def test_is_stands_beside_none_and_booleans_only(self):
        for path, tree in trees():
            for node in ast.walk(tree):
                if isinstance(node, ast.Compare) and isinstance(node.ops[0], (ast.Is, ast.IsNot)):
                    self.assertIn(ast.unparse(node.comparators[0]), ("None", "True", "False"), (path, node.lineno))

    def test_imports_do_not_go_round(self):
        reached = {path.stem: set() for path in FILES}
        for path, tree in trees():
            for node in tree.body:
                if isinstance(node, ast.ImportFrom) and node.module.startswith("pairahead."):
                    reached[path.stem].add(node.module.split(".")[1])
        for _ in FILES:
            for stem, others in reached.items():
                reached[stem] = others.union(*[reached[other] for other in others])
        for stem, others in reached.items():
            self.assertNotIn(stem, others)


def is_plain(node):
    """Tell whether a value is plainly a number: so it may be compared by sorted, min and max."""
    if isinstance(node, ast.ListComp):
        return is_plain(node.elt)
    if isinstance(node, ast.Call) and isinstance(node.func, ast.Name):
        return node.func.id in ("len", "int", "ord", "str", "repr")
    return isinstance(node, ast.Constant)


if __name__ == "__main__":
    unittest.main()
