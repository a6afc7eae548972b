"""The language: the rules of LANGUAGE.md that a short look at the package's files can check."""

import ast
import pathlib
import re

from tests.cases import Case

PACKAGE = pathlib.Path(__file__).resolve().parent.parent / "forwardlists"
BUILTINS = set("""
    len range enumerate zip min max sum abs sorted reversed int str bool bytes list tuple dict set frozenset isinstance
    ord repr any all divmod pow getattr hasattr setattr iter next map type super property staticmethod classmethod
    object Exception ValueError TypeError KeyError IndexError LookupError ZeroDivisionError ArithmeticError
    OverflowError RuntimeError NotImplementedError AttributeError StopIteration NotImplemented
""".split())
BARRED = re.compile(r"_wall|_WallAttr|\b(typing|typing_extensions|enum|Enum|namedtuple|dataclass)\b")
NAMES = (ast.FunctionDef, ast.ClassDef)


def files():
    """The files of the package."""
    return sorted(PACKAGE.glob("*.py"))


def bound(tree):
    """All names that a file binds: by def, class, import, parameter or assignment."""
    names = {node.name for node in ast.walk(tree) if isinstance(node, NAMES)}
    names |= {node.arg for node in ast.walk(tree) if isinstance(node, ast.arg)}
    names |= {node.name for node in ast.walk(tree) if isinstance(node, ast.ExceptHandler) and node.name}
    names |= {one.asname or one.name for node in ast.walk(tree) if isinstance(node, ast.ImportFrom) for one in node.names}
    return names | {node.id for node in ast.walk(tree) if isinstance(node, ast.Name) and not isinstance(node.ctx, ast.Load)}


class Language(Case):
    def test_the_folder_holds_nothing_else(self):
        others = [one.name for one in PACKAGE.iterdir() if one.suffix != ".py" and one.name != "__pycache__"]
        self.assertEqual(others, [])
        self.assertIn(PACKAGE / "__init__.py", files())

    def test_sizes_and_signs(self):
        for file in files():
            lines = file.read_text(encoding="utf-8").splitlines()
            with self.subTest(file.name):
                self.assertLessEqual(len(lines), 399)
                self.assertLessEqual(max(len(line) for line in lines), 120)
                self.assertTrue(all(" " <= sign <= "~" for line in lines for sign in line))
                self.assertIsNone(BARRED.search("\n".join(lines)))

    def test_functions_are_short_and_told_of(self):
        for file in files():
            for node in ast.walk(ast.parse(file.read_text())):
                if isinstance(node, ast.FunctionDef):
                    with self.subTest(file.name, function=node.name):
                        self.assertLessEqual(node.end_lineno - node.lineno + 1, 40)
                        self.assertTrue(node.name == "__init__" or ast.get_docstring(node))

    def test_imports_are_of_the_package_and_of_the_few_others(self):
        for file in files():
            for node in ast.walk(ast.parse(file.read_text())):
                self.assertNotIsInstance(node, ast.Import)
                if isinstance(node, ast.ImportFrom):
                    with self.subTest(file.name, module=node.module):
                        self.assertEqual(node.level, 0)
                        self.assertRegex(node.module, "^(forwardlists[.][a-z]+|math|itertools|heapq|collections)$")

    def test_names_are_the_package_s_own_or_let(self):
        for file in files():
            tree = ast.parse(file.read_text())
            own = bound(tree)
            read = {node.id for node in ast.walk(tree) if isinstance(node, ast.Name)}
            with self.subTest(file.name):
                self.assertEqual(sorted(read - own - BUILTINS), [])
                self.assertEqual(sorted(own & set(dir(__import__("builtins"))) - {"_"}), [])

    def test_no_name_is_bound_twice_by_imports_definitions_and_variables(self):
        for file in files():
            tree = ast.parse(file.read_text())
            imported = [one.name for node in ast.walk(tree) if isinstance(node, ast.ImportFrom) for one in node.names]
            defined = [node.name for node in tree.body if isinstance(node, NAMES)]
            others = {node.id for node in ast.walk(tree) if isinstance(node, ast.Name) and isinstance(node.ctx, ast.Store)}
            others |= {node.arg for node in ast.walk(tree) if isinstance(node, ast.arg)}
            with self.subTest(file.name):
                self.assertEqual(len(set(imported + defined)), len(imported + defined))
                self.assertEqual(sorted(others & set(imported + defined)), [])

    def test_no_float_no_division_and_no_percent_in_a_string(self):
        for file in files():
            for node in ast.walk(ast.parse(file.read_text())):
                with self.subTest(file.name, line=getattr(node, "lineno", 0)):
                    self.assertNotIsInstance(node, (ast.Div, ast.Global, ast.AsyncFunctionDef, ast.AnnAssign))
                    if isinstance(node, ast.Constant):
                        self.assertNotIsInstance(node.value, (float, complex))
                        self.assertNotIn("%", str(node.value))
