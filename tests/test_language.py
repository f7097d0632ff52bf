"""Some rules of the language that can be seen in the files of the package."""

import ast
import builtins
import pathlib
import re
import unittest

PACKAGE = pathlib.Path(__file__).resolve().parent.parent / "housewardens"
BUILTINS = set(
    "len range enumerate zip min max sum abs sorted reversed int str bool bytes list tuple dict set frozenset "
    "isinstance ord repr any all divmod iter next map classmethod property Exception ValueError TypeError KeyError "
    "IndexError LookupError ZeroDivisionError NotImplementedError RuntimeError NotImplemented".split()
)
WORDS = re.compile(
    r"\b(type|typing|typing_extensions|enum|Enum|IntEnum|StrEnum|Flag|IntFlag|Generic|Protocol|ABC|ABCMeta|namedtuple|"
    r"NamedTuple|TypedDict|TYPE_CHECKING|abstractmethod|global|async|await)\b|dataclass|overload|contextmanager"
)
NAMES = set(
    "register mro elements open input law version_info with_traceback add_note attrgetter breakpoint builtins compile "
    "copyright credits delattr dir eval exec exit gc getattr globals hasattr help id importlib license locals "
    "methodcaller os quit setattr super sys type vars next iter".split()
)
METHODS = set(
    "append clear copy count endswith extend find get index insert isalnum isalpha isdigit islower isspace isupper "
    "items join keys ljust lower lstrip partition pop remove replace reverse rfind rjust rpartition rsplit rstrip "
    "setdefault split splitlines startswith strip update upper values zfill bit_length removeprefix removesuffix "
    "isascii add discard".split()
)
CHANGING = set("append clear extend insert pop remove reverse setdefault sort update add discard".split())
SPECIAL = {"__init__", "__eq__", "__str__", "__repr__", "__len__", "__or__"}
BARRED = (
    ast.GeneratorExp, ast.YieldFrom, ast.Global, ast.AsyncFunctionDef, ast.Await, ast.Import, ast.Div,
    ast.MatMult, ast.AnnAssign,
)  # fmt: skip


def files():
    return sorted(PACKAGE.glob("**/*.py"))


def trees():
    return [(path, ast.parse(path.read_text())) for path in files()]


def is_set(node):
    """Whether an expression makes a set."""
    return isinstance(node, (ast.Set, ast.SetComp)) or isinstance(node, ast.Call) and getattr(node.func, "id", "") == "set"


class Language(unittest.TestCase):
    def test_files_and_lines(self):
        self.assertTrue(files())
        for path in files():
            text = path.read_bytes().decode("ascii")
            rows = text.split("\n")
            self.assertLessEqual(len(rows), 400, path)
            self.assertTrue(all(len(row) <= 120 and row == row.rstrip() for row in rows), path)
            self.assertNotIn("\t", text)
            self.assertRegex(path.name, r"^([a-z][a-z0-9]*|__init__)\.py$")
        others = [path for path in PACKAGE.iterdir() if path.suffix != ".py" and path.name != "__pycache__"]
        self.assertEqual(others, [])

    def test_functions_are_small(self):
        for path, tree in trees():
            for node in ast.walk(tree):
                if isinstance(node, ast.FunctionDef):
                    self.assertLessEqual(node.end_lineno - node.lineno + 1, 40, (path, node.name))

    def test_what_is_barred(self):
        for path, tree in trees():
            for node in ast.walk(tree):
                self.assertNotIsInstance(node, BARRED, (path, getattr(node, "lineno", 0)))
                if isinstance(node, ast.Constant):
                    self.assertNotIsInstance(node.value, (float, complex), path)
                    self.assertFalse(isinstance(node.value, str) and "%" in node.value, path)
                if isinstance(node, ast.Pow):
                    self.fail(path)
                if isinstance(node, (ast.FunctionDef, ast.ClassDef)):
                    names = [row.id for row in node.decorator_list]
                    self.assertIn(names, ([], ["classmethod"], ["property"]), path)
                if isinstance(node, ast.FunctionDef) and node.name.startswith("__"):
                    self.assertIn(node.name, SPECIAL, path)
                if isinstance(node, ast.ExceptHandler):
                    self.assertNotIn(ast.unparse(node.type), dir(builtins), path)

    def test_imports(self):
        for path, tree in trees():
            for node in ast.walk(tree):
                if isinstance(node, ast.ImportFrom):
                    self.assertTrue(node.module.startswith("housewardens."), path)
                    self.assertEqual(node.level, 0)
                    source = ast.parse((PACKAGE / (node.module.split(".")[1] + ".py")).read_text())
                    own = {row.name for row in source.body if isinstance(row, (ast.FunctionDef, ast.ClassDef))}
                    own |= {row.targets[0].id for row in source.body if isinstance(row, ast.Assign)}
                    for name in node.names:
                        self.assertIsNone(name.asname)
                        self.assertIn(name.name, own, path)

    def test_no_file_imports_in_a_ring(self):
        leads = {}
        for path, tree in trees():
            rows = [node.module.split(".")[1] for node in ast.walk(tree) if isinstance(node, ast.ImportFrom)]
            leads[path.stem] = set(rows)
        while leads:
            free = [name for name, rows in leads.items() if not rows & set(leads)]
            self.assertTrue(free, leads)
            for name in free:
                del leads[name]

    def test_imported_names_are_used(self):
        for path, tree in trees():
            used = {node.id for node in ast.walk(tree) if isinstance(node, ast.Name)}
            for node in ast.walk(tree):
                if isinstance(node, ast.ImportFrom):
                    self.assertEqual([row.name for row in node.names if row.name not in used], [], path)

    def test_names(self):
        for path, tree in trees():
            top = set()
            for node in tree.body:
                if isinstance(node, ast.ImportFrom):
                    top |= {row.name for row in node.names}
                elif isinstance(node, (ast.FunctionDef, ast.ClassDef)):
                    self.assertNotIn(node.name, top, path)
                    top.add(node.name)
            for node in ast.walk(tree):
                name = node.id if isinstance(node, ast.Name) and isinstance(node.ctx, ast.Store) else None
                name = node.arg if isinstance(node, ast.arg) else name
                if name is not None:
                    self.assertNotIn(name, dir(builtins), path)
                    self.assertNotIn(name, top, (path, node.lineno))
                if isinstance(node, (ast.FunctionDef, ast.ClassDef)):
                    self.assertNotIn(node.name, dir(builtins), path)
                if isinstance(node, ast.Name) and isinstance(node.ctx, ast.Load) and node.id in dir(builtins):
                    self.assertIn(node.id, BUILTINS, (path, node.lineno))

    def test_methods(self):
        own = {
            node.name
            for _, tree in trees()
            for kind in ast.walk(tree)
            if isinstance(kind, ast.ClassDef)
            for node in kind.body
            if isinstance(node, ast.FunctionDef)
        }
        for path, tree in trees():
            for node in ast.walk(tree):
                if isinstance(node, ast.Call) and isinstance(node.func, ast.Attribute):
                    self.assertIn(node.func.attr, METHODS | own, (path, node.lineno))
                    self.assertEqual(node.keywords, [], path)

    def test_words(self):
        for path, tree in trees():
            for node in ast.walk(tree):
                if isinstance(node, (ast.Module, ast.ClassDef, ast.FunctionDef)) and ast.get_docstring(node):
                    del node.body[0]
            self.assertIsNone(WORDS.search(ast.unparse(tree)), path)

    def test_names_that_are_not_used(self):
        for path, tree in trees():
            for node in ast.walk(tree):
                for part in ("id", "attr", "name", "arg"):
                    self.assertNotIn(getattr(node, part, None), NAMES, (path, getattr(node, "lineno", 0)))

    def test_generators_are_called_as_such_alone(self):
        made = {}
        for path, tree in trees():
            for node in ast.walk(tree):
                if isinstance(node, ast.FunctionDef):
                    made.setdefault(node.name, []).append(any(isinstance(row, ast.Yield) for row in ast.walk(node)))
        yielding = [name for name, rows in made.items() if any(rows)]
        self.assertEqual([made[name] for name in yielding], [[True]] * len(yielding))
        for path, tree in trees():
            used = [node.id for node in ast.walk(tree) if isinstance(node, ast.Name) and node.id in yielding]
            self.assertEqual(used, [], path)

    def test_powers_have_plain_exponents(self):
        for path, tree in trees():
            for node in ast.walk(tree):
                if isinstance(node, ast.BinOp) and isinstance(node.op, ast.Pow):
                    self.fail((path, node.lineno))

    def test_operators_and_the_like_change_nothing(self):
        for path, name, node in self.run_by_operators():
            for row in ast.walk(node):
                self.assertNotIsInstance(row, (ast.AugAssign, ast.Delete, ast.NamedExpr), (path, name))
                if isinstance(row, ast.Assign):
                    self.assertTrue(all(isinstance(target, (ast.Name, ast.Tuple)) for target in row.targets), (path, name))
                if isinstance(row, ast.Call) and isinstance(row.func, ast.Attribute):
                    self.assertNotIn(row.func.attr, CHANGING, (path, name))

    def run_by_operators(self):
        """All functions and methods, but for __init__, that an operator or the like, or a property, may run."""
        made = {}
        fresh = []
        for path, tree in trees():
            for node in ast.walk(tree):
                if isinstance(node, ast.FunctionDef):
                    made.setdefault(node.name, []).append((path, node.name, node))
                    marks = [row.id for row in node.decorator_list]
                    if node.name.startswith("__") and node.name != "__init__" or "property" in marks:
                        fresh.append((path, node.name, node))
        found = []
        while fresh:
            found += fresh
            names = {
                getattr(row.func, "id", getattr(row.func, "attr", None))
                for _, _, node in fresh
                for row in ast.walk(node)
                if isinstance(row, ast.Call)
            }
            fresh = [row for name in names for row in made.get(name, []) if row not in found]
        self.assertGreater(len(found), 10)
        return found

    def test_methods_and_attributes_of_a_class_have_unlike_names(self):
        for path, tree in trees():
            for kind in ast.walk(tree):
                if isinstance(kind, ast.ClassDef):
                    methods = {row.name for row in kind.body if isinstance(row, ast.FunctionDef)}
                    for node in ast.walk(kind):
                        if isinstance(node, ast.Attribute) and isinstance(node.ctx, ast.Store):
                            self.assertNotIn(node.attr, methods, (path, kind.name))

    def test_stored_sets_are_used_plainly(self):
        for path, tree in trees():
            for function in ast.walk(tree):
                if isinstance(function, ast.FunctionDef):
                    self.check_sets(path, function)

    def check_sets(self, path, function):
        """A set is stored once, and then only asked, added to, counted or sorted."""
        stored = [
            node.targets[0].id
            for node in ast.walk(function)
            if isinstance(node, ast.Assign) and isinstance(node.targets[0], ast.Name) and is_set(node.value)
        ]
        self.assertEqual(len(stored), len(set(stored)), (path, function.name))
        allowed = set()
        for node in ast.walk(function):
            if isinstance(node, ast.Attribute) and node.attr in ("add", "discard"):
                allowed.add(node.value)
            elif isinstance(node, ast.Compare) and isinstance(node.ops[0], (ast.In, ast.NotIn)):
                allowed.add(node.comparators[0])
            elif isinstance(node, ast.Call) and getattr(node.func, "id", None) in ("len", "sorted"):
                allowed |= set(node.args)
        for node in ast.walk(function):
            if isinstance(node, ast.Name) and node.id in stored and isinstance(node.ctx, ast.Load):
                self.assertIn(node, allowed, (path, function.name, node.lineno))
            if isinstance(node, (ast.Lambda, ast.FunctionDef)) and node is not function:
                inner = {row.id for row in ast.walk(node) if isinstance(row, ast.Name)}
                self.assertFalse(inner & set(stored), (path, function.name))

    def test_any_and_all_take_lists(self):
        for path, tree in trees():
            for node in ast.walk(tree):
                if isinstance(node, ast.Call) and getattr(node.func, "id", None) in ("any", "all"):
                    self.assertIsInstance(node.args[0], ast.ListComp, (path, node.lineno))

    def test_sets_are_kept_plain(self):
        for path, tree in trees():
            for node in ast.walk(tree):
                if isinstance(node, (ast.For, ast.comprehension)):
                    self.assertNotIsInstance(node.iter, (ast.Set, ast.SetComp), path)
                    called = node.iter.func if isinstance(node.iter, ast.Call) else None
                    self.assertNotEqual(getattr(called, "id", None), "set", path)


if __name__ == "__main__":
    unittest.main()
