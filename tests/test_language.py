"""Some rules of the language that can be seen in the files of the package."""

import ast
import builtins
import pathlib
import re
import unittest

PACKAGE = pathlib.Path(__file__).resolve().parent.parent / "housewardens"
BUILTINS = set(
    "len range enumerate zip min max sum abs sorted reversed int str bool bytes list tuple dict set frozenset "
    "isinstance ord repr any all divmod iter next map classmethod property Exception ValueError TypeError KeyError "
    "IndexError LookupError ZeroDivisionError NotImplementedError RuntimeError NotImplemented".split()
)
WORDS = re.compile(
    r"\b(type|typing|enum|Enum|Flag|Generic|Protocol|ABC|namedtuple|NamedTuple|TypedDict|register|mro|elements|open|"
    r"input|law|global|async|await)\b"
)
METHODS = set(
    "append clear copy count endswith extend find get index insert isalnum isalpha isdigit islower isspace isupper "
    "items join keys ljust lower lstrip partition pop remove replace reverse rfind rjust rpartition rsplit rstrip "
    "setdefault split splitlines startswith strip update upper values zfill bit_length removeprefix removesuffix "
    "isascii add discard".split()
)
SPECIAL = {"__init__", "__eq__", "__str__", "__repr__", "__len__", "__or__"}
BARRED = (
    ast.GeneratorExp, ast.Yield, ast.YieldFrom, ast.Global, ast.AsyncFunctionDef, ast.Await, ast.Import, ast.Div,
    ast.MatMult, ast.AnnAssign,
)  # fmt: skip


def files():
    return sorted(PACKAGE.glob("**/*.py"))


def trees():
    return [(path, ast.parse(path.read_text())) for path in files()]


class Language(unittest.TestCase):
    def test_files_and_lines(self):
        self.assertTrue(files())
        for path in files():
            text = path.read_bytes().decode("ascii")
            rows = text.split("\n")
            self.assertLessEqual(len(rows), 400, path)
            self.assertTrue(all(len(row) <= 120 and row == row.rstrip() for row in rows), path)
            self.assertNotIn("\t", text)
            self.assertRegex(path.name, r"^([a-z][a-z0-9]*|__init__)\.py$")
        others = [path for path in PACKAGE.iterdir() if path.suffix != ".py" and path.name != "__pycache__"]
        self.assertEqual(others, [])

    def test_functions_are_small(self):
        for path, tree in trees():
            for node in ast.walk(tree):
                if isinstance(node, ast.FunctionDef):
                    self.assertLessEqual(node.end_lineno - node.lineno + 1, 40, (path, node.name))

    def test_what_is_barred(self):
        for path, tree in trees():
            for node in ast.walk(tree):
                self.assertNotIsInstance(node, BARRED, (path, getattr(node, "lineno", 0)))
                if isinstance(node, ast.Constant):
                    self.assertNotIsInstance(node.value, (float, complex), path)
                    self.assertFalse(isinstance(node.value, str) and "%" in node.value, path)
                if isinstance(node, ast.Pow):
                    self.fail(path)
                if isinstance(node, (ast.FunctionDef, ast.ClassDef)):
                    names = [row.id for row in node.decorator_list]
                    self.assertIn(names, ([], ["classmethod"], ["property"]), path)
                if isinstance(node, ast.FunctionDef) and node.name.startswith("__"):
                    self.assertIn(node.name, SPECIAL, path)
                if isinstance(node, ast.ExceptHandler):
                    self.assertNotIn(ast.unparse(node.type), dir(builtins), path)

    def test_imports(self):
        for path, tree in trees():
            for node in ast.walk(tree):
                if isinstance(node, ast.ImportFrom):
                    self.assertTrue(node.module.startswith("housewardens."), path)
                    self.assertEqual(node.level, 0)
                    source = ast.parse((PACKAGE / (node.module.split(".")[1] + ".py")).read_text())
                    own = {row.name for row in source.body if isinstance(row, (ast.FunctionDef, ast.ClassDef))}
                    own |= {row.targets[0].id for row in source.body if isinstance(row, ast.Assign)}
                    for name in node.names:
                        self.assertIsNone(name.asname)
                        self.assertIn(name.name, own, path)

    def test_no_file_imports_in_a_ring(self):
        leads = {}
        for path, tree in trees():
            rows = [node.module.split(".")[1] for node in ast.walk(tree) if isinstance(node, ast.ImportFrom)]
            leads[path.stem] = set(rows)
        while leads:
            free = [name for name, rows in leads.items() if not rows & set(leads)]
            self.assertTrue(free, leads)
            for name in free:
                del leads[name]

    def test_imported_names_are_used(self):
        for path, tree in trees():
            used = {node.id for node in ast.walk(tree) if isinstance(node, ast.Name)}
            for node in ast.walk(tree):
                if isinstance(node, ast.ImportFrom):
                    self.assertEqual([row.name for row in node.names if row.name not in used], [], path)

    def test_names(self):
        for path, tree in trees():
            top = set()
            for node in tree.body:
                if isinstance(node, ast.ImportFrom):
                    top |= {row.name for row in node.names}
                elif isinstance(node, (ast.FunctionDef, ast.ClassDef)):
                    self.assertNotIn(node.name, top, path)
                    top.add(node.name)
            for node in ast.walk(tree):
                name = node.id if isinstance(node, ast.Name) and isinstance(node.ctx, ast.Store) else None
                name = node.arg if isinstance(node, ast.arg) else name
                if name is not None:
                    self.assertNotIn(name, dir(builtins), path)
                    self.assertNotIn(name, top, (path, node.lineno))
                if isinstance(node, (ast.FunctionDef, ast.ClassDef)):
                    self.assertNotIn(node.name, dir(builtins), path)
                if isinstance(node, ast.Name) and isinstance(node.ctx, ast.Load) and node.id in dir(builtins):
                    self.assertIn(node.id, BUILTINS, (path, node.lineno))

    def test_methods(self):
        own = {"read", "led", "without_moves"}
        for path, tree in trees():
            for node in ast.walk(tree):
                if isinstance(node, ast.Call) and isinstance(node.func, ast.Attribute):
                    self.assertIn(node.func.attr, METHODS | own, (path, node.lineno))
                    self.assertEqual(node.keywords, [], path)

    def test_words(self):
        for path, tree in trees():
            for node in ast.walk(tree):
                if isinstance(node, (ast.Module, ast.ClassDef, ast.FunctionDef)) and ast.get_docstring(node):
                    del node.body[0]
            self.assertIsNone(WORDS.search(ast.unparse(tree)), path)

    def test_sets_are_kept_plain(self):
        for path, tree in trees():
            for node in ast.walk(tree):
                if isinstance(node, (ast.For, ast.comprehension)):
                    self.assertNotIsInstance(node.iter, (ast.Set, ast.SetComp), path)
                    called = node.iter.func if isinstance(node.iter, ast.Call) else None
                    self.assertNotEqual(getattr(called, "id", None), "set", path)


if __name__ == "__main__":
    unittest.main()
