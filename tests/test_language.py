"""Tests of those rules of LANGUAGE.md that can be seen without running the package.

They also stand for the promise that no clock, chance or file is used: nothing
is imported, and no builtin is named, by which that could be done.
"""

import ast
import builtins
import pathlib
import unittest
import warnings

PACKAGE = pathlib.Path(__file__).resolve().parent.parent / "kindmeets"

LIBRARY = {
    "heapq": {"heappush", "heappop", "heapify", "heapreplace", "heappushpop"},
    "math": {"gcd", "lcm", "isqrt", "comb", "perm", "factorial"},
    "itertools": {
        "product", "combinations", "permutations", "chain", "accumulate", "pairwise", "islice", "zip_longest",
    },
    "collections": {"defaultdict"},
    "__future__": {"annotations"},
}

# L8, without chr (L27) and bytes (L7).
BUILTINS = set(
    "len range enumerate zip min max sum abs sorted reversed int str bool list tuple dict set frozenset"
    " isinstance ord repr any all divmod pow getattr hasattr setattr iter next map super property"
    " staticmethod classmethod Exception ValueError TypeError KeyError IndexError LookupError"
    " ZeroDivisionError ArithmeticError OverflowError RuntimeError NotImplementedError AttributeError"
    " StopIteration NotImplemented".split()
)


def sources():
    """Each file of the package, by its name, as text."""
    return {path.name: path.read_bytes().decode("utf-8") for path in sorted(PACKAGE.glob("*.py"))}


def nodes():
    """Each part of each file, with the file's name."""
    return [(name, node) for name, text in sources().items() for node in ast.walk(ast.parse(text))]


class Language(unittest.TestCase):
    def test_the_folder_contains_only_python_files(self):
        held = [path for path in PACKAGE.iterdir() if path.name != "__pycache__"]
        self.assertIn("__init__.py", [path.name for path in held])
        for path in held:
            with self.subTest(path.name):
                self.assertTrue(path.is_file())
                self.assertRegex(path.name, r"\A[a-z0-9_]+\.py\Z")

    def test_imports(self):
        for name, node in nodes():
            self.assertNotIsInstance(node, ast.Import, name)
            if isinstance(node, ast.ImportFrom):
                with self.subTest(name, line=node.lineno):
                    self.assertEqual(node.level, 0)
                    told = {alias.name for alias in node.names}
                    if not (node.module or "").startswith("kindmeets."):
                        self.assertLessEqual(told, LIBRARY.get(node.module, set()))
                    self.assertNotIn("*", told)

    def test_builtins(self):
        for name, node in nodes():
            if isinstance(node, ast.Name) and hasattr(builtins, node.id):
                with self.subTest(name, line=node.lineno):
                    self.assertIn(node.id, BUILTINS)
                    self.assertIsInstance(node.ctx, ast.Load)

    def test_nothing_of_its_own_has_the_name_of_a_builtin(self):
        for name, node in nodes():
            if isinstance(node, (ast.FunctionDef, ast.ClassDef)):
                self.assertNotIn(node.name, vars(builtins), name)
            if isinstance(node, ast.arg):
                self.assertNotIn(node.arg, vars(builtins), name)

    def test_no_variable_has_the_name_of_an_import_or_a_class(self):
        for name, text in sources().items():
            tree = list(ast.walk(ast.parse(text)))
            bound = {alias.name for node in tree if isinstance(node, ast.ImportFrom) for alias in node.names}
            bound |= {node.name for node in tree if isinstance(node, ast.ClassDef)}
            stored = {node.id for node in tree if isinstance(node, ast.Name) and isinstance(node.ctx, ast.Store)}
            stored |= {node.arg for node in tree if isinstance(node, ast.arg)}
            with self.subTest(name):
                self.assertEqual(bound & stored, set())

    def test_module_level(self):
        for name, text in sources().items():
            for node in ast.parse(text).body:
                with self.subTest(name, line=node.lineno):
                    self.assertIsInstance(
                        node, (ast.Expr, ast.ImportFrom, ast.FunctionDef, ast.ClassDef, ast.Assign)
                    )
                    if isinstance(node, (ast.Expr, ast.Assign)):
                        self.assertIsInstance(node.value, ast.Constant)

    def test_is_stands_beside_none_true_and_false(self):
        for name, node in nodes():
            if isinstance(node, ast.Compare) and isinstance(node.ops[0], (ast.Is, ast.IsNot)):
                with self.subTest(name, line=node.lineno):
                    self.assertIsInstance(node.comparators[0], ast.Constant)
                    self.assertIn(node.comparators[0].value, (None, True, False))

    def test_no_two_files_import_from_each_other(self):
        imported = {
            "kindmeets." + name.removesuffix(".py"): {
                node.module for node in ast.walk(ast.parse(text)) if isinstance(node, ast.ImportFrom)
            }
            for name, text in sources().items()
        }
        while imported:
            free = [name for name, needed in imported.items() if not needed & set(imported)]
            self.assertTrue(free, imported)
            for name in free:
                del imported[name]

    def test_no_numbers_with_a_point(self):
        for name, node in nodes():
            self.assertNotIsInstance(node, ast.Div, name)
            if isinstance(node, ast.Constant):
                self.assertNotIsInstance(node.value, (float, complex), name)

    def test_sizes(self):
        for name, text in sources().items():
            lines = text.split("\n")
            self.assertLessEqual(len(lines), 399, name)
            self.assertLessEqual(max(map(len, lines)), 120, name)
        for name, node in nodes():
            if isinstance(node, ast.FunctionDef):
                with self.subTest(name, function=node.name):
                    self.assertLessEqual(node.end_lineno - node.lineno + 1, 40)

    def test_characters(self):
        for name, text in sources().items():
            with self.subTest(name):
                self.assertRegex(text, r"\A[ -~\n]*\Z")

    def test_python_gives_no_warning(self):
        for name, text in sources().items():
            with self.subTest(name), warnings.catch_warnings():
                warnings.simplefilter("error")
                compile(text, name, "exec")


if __name__ == "__main__":
    unittest.main()
