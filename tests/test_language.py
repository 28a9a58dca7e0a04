"""The rules of the language that can be seen in the code: a part of L1 to L28, for all files of the package."""

import ast
import re
import unittest
from pathlib import Path

PACKAGE = Path(__file__).resolve().parent.parent / "lightfirst"
FILES = sorted(path for path in PACKAGE.rglob("*") if "__pycache__" not in path.parts)

BUILTINS = set("""len range enumerate zip min max sum abs sorted reversed int str bool list tuple dict set isinstance
    ord repr any all divmod ValueError KeyError IndexError LookupError ZeroDivisionError""".split())
PYTHONS_NAMES = set(vars(__import__("builtins")))
METHODS = set("""append clear copy count endswith extend find get index insert isalnum isalpha isdigit islower isspace
    isupper items join keys ljust lower lstrip partition pop remove replace reverse rfind rjust rpartition rsplit
    rstrip setdefault split splitlines startswith strip update upper values zfill bit_length isascii""".split())
LIBRARY = {"math": {"gcd", "lcm", "isqrt", "comb", "perm", "factorial"},
           "itertools": {"product", "combinations", "permutations"},
           "heapq": {"heappush", "heappop", "heapify", "heapreplace", "heappushpop"}}
NEVER = set("register mro elements open input law version_info with_traceback add_note".split())
NO_NAMES = NEVER | set("""attrgetter breakpoint builtins compile copyright credits delattr dir eval exec exit gc globals
    help id importlib license locals methodcaller os quit super type vars sys""".split())
NO_WORDS = re.compile(r"\b(type|typing|typing_extensions|enum|Enum|IntEnum|StrEnum|Flag|IntFlag|Generic|Protocol|ABC|"
                      r"ABCMeta|namedtuple|NamedTuple|TypedDict|TYPE_CHECKING|abstractmethod|_wall|_WallAttr)\b")
NO_NODES = (ast.Global, ast.AsyncFunctionDef, ast.AsyncFor, ast.AsyncWith, ast.Await, ast.Div, ast.GeneratorExp,
            ast.Yield, ast.YieldFrom, ast.Set, ast.SetComp, ast.With, ast.Import, ast.AnnAssign)
DUNDERS = {"__init__", "__eq__", "__repr__", "__str__", "__len__"}


def trees():
    """The files with their trees."""
    return [(path, ast.parse(path.read_text())) for path in FILES]


def docstrings(tree):
    """The nodes of the docstrings."""
    found = []
    for node in ast.walk(tree):
        if isinstance(node, (ast.Module, ast.ClassDef, ast.FunctionDef)) and ast.get_docstring(node) is not None:
            found.append(node.body[0].value)
    return found


def bound_names(tree):
    """The names that a file binds anywhere, but for attributes."""
    found = []
    for node in ast.walk(tree):
        if isinstance(node, (ast.FunctionDef, ast.ClassDef)):
            found.append(node.name)
        if isinstance(node, ast.arg):
            found.append(node.arg)
        if isinstance(node, ast.Name) and isinstance(node.ctx, ast.Store):
            found.append(node.id)
    return found


class Language(unittest.TestCase):

    def test_files(self):
        for path in FILES:
            self.assertEqual(path.suffix, ".py")
            self.assertRegex(path.stem, r"^([a-z][a-z0-9_]*|__init__)$")
            text = path.read_bytes().decode("ascii")
            self.assertLessEqual(set(text), set(map(chr, range(32, 127))) | {"\n"})
            lines = text.splitlines()
            self.assertLessEqual(len(lines), 399)
            self.assertLessEqual(max(map(len, lines)), 120)

    def test_functions_are_short(self):
        for path, tree in trees():
            for node in ast.walk(tree):
                if isinstance(node, ast.FunctionDef):
                    self.assertLessEqual(node.end_lineno - node.lineno + 1, 40, (path, node.name))
                    self.assertEqual(node.decorator_list, [])
                    self.assertIsNotNone(ast.get_docstring(node) or node.name.startswith("__"), (path, node.name))

    def test_modules_hold_only_what_they_may(self):
        for path, tree in trees():
            for node in tree.body[1:]:
                self.assertIsInstance(node, (ast.ImportFrom, ast.FunctionDef, ast.ClassDef, ast.Assign), path)
                if isinstance(node, ast.Assign):
                    self.check_plain(node, tree)
            self.assertIsNotNone(ast.get_docstring(tree))

    def check_plain(self, node, tree):
        """A value at module level is plain, but for functions above it that are the values of a dict."""
        above = {item.name for item in tree.body if isinstance(item, ast.FunctionDef) and item.lineno < node.lineno}
        if isinstance(node.value, ast.Dict):
            for key, value in zip(node.value.keys, node.value.values):
                ast.literal_eval(key)
                if not isinstance(value, ast.Name):
                    self.assertNotIsInstance(ast.literal_eval(value), (list, dict))
                else:
                    self.assertIn(value.id, above)
        else:
            ast.literal_eval(node.value)

    def test_only_own_errors_are_caught(self):
        own = {item.name for item in ast.parse((PACKAGE / "errors.py").read_text()).body if hasattr(item, "name")}
        for path, tree in trees():
            for node in ast.walk(tree):
                if isinstance(node, ast.Try):
                    self.assertEqual(node.finalbody, [])
                    for handler in node.handlers:
                        self.assertIn(handler.type.id, own, path)

    def test_no_files_import_from_each_other(self):
        needs = {path.stem: [node.module.split(".")[1] for node in ast.walk(tree)
                             if isinstance(node, ast.ImportFrom) and node.module.startswith("lightfirst.")]
                 for path, tree in trees()}
        while needs:
            free = [name for name in needs if not set(needs[name]) & set(needs)]
            self.assertNotEqual(free, [])
            needs = {name: needs[name] for name in needs if name not in free}

    def test_imports(self):
        for path, tree in trees():
            for node in ast.walk(tree):
                if not isinstance(node, ast.ImportFrom):
                    continue
                self.assertIn(node, tree.body)
                self.assertEqual([name.asname for name in node.names], [None] * len(node.names))
                told = {name.name for name in node.names}
                if node.module in LIBRARY:
                    self.assertLessEqual(told, LIBRARY[node.module])
                    continue
                self.assertTrue(node.module.startswith("lightfirst."))
                home = ast.parse((PACKAGE / (node.module.split(".")[1] + ".py")).read_text())
                self.assertLessEqual(told, {item.name for item in home.body if hasattr(item, "name")}
                                     | {item.targets[0].id for item in home.body if isinstance(item, ast.Assign)})

    def test_imports_are_used_and_not_named_again(self):
        for path, tree in trees():
            imported = [name.name for node in tree.body if isinstance(node, ast.ImportFrom) for name in node.names]
            classes = [node.name for node in tree.body if isinstance(node, ast.ClassDef)]
            read = {node.id for node in ast.walk(tree) if isinstance(node, ast.Name)}
            self.assertLessEqual(set(imported), read, path)
            bound = bound_names(tree)
            self.assertEqual(set(imported) & set(bound), set(), path)
            self.assertEqual([name for name in classes if bound.count(name) > 1], [])

    def test_names(self):
        for path, tree in trees():
            for name in bound_names(tree):
                self.assertNotIn(name, PYTHONS_NAMES)
                self.assertNotIn(name, NO_NAMES)
                self.assertTrue(name in DUNDERS or name == "_" or not name.startswith("_"), (path, name))
            for node in ast.walk(tree):
                if isinstance(node, ast.Name) and node.id in PYTHONS_NAMES:
                    self.assertIn(node.id, BUILTINS, path)
                if isinstance(node, ast.Name):
                    self.assertFalse(node.id == "_" and isinstance(node.ctx, ast.Load), path)

    def test_attributes_and_methods(self):
        stored = {node.attr for _, tree in trees() for node in ast.walk(tree)
                  if isinstance(node, ast.Attribute) and isinstance(node.ctx, ast.Store)}
        self.assertEqual(stored & (METHODS | NEVER | {"args", "encode", "decode", "hex", "format", "sort"}), set())
        own = {item.name for _, tree in trees() for node in ast.walk(tree) if isinstance(node, ast.ClassDef)
               for item in node.body if isinstance(item, ast.FunctionDef)}
        self.assertEqual(stored & own, set())
        self.assertEqual(own & (METHODS | NEVER), own & {"copy"})
        for path, tree in trees():
            for node in ast.walk(tree):
                if isinstance(node, ast.Attribute) and isinstance(node.ctx, ast.Load):
                    self.assertIn(node.attr, stored | METHODS | own | {"__class__", "__name__"}, path)

    def test_words(self):
        for path, tree in trees():
            lines = path.read_text().splitlines()
            for node in docstrings(tree):
                for at in range(node.lineno - 1, node.end_lineno):
                    lines[at] = ""
            code = "\n".join(line.split("#")[0] for line in lines)
            self.assertIsNone(NO_WORDS.search(code), path)
            self.assertNotRegex(path.read_text(), "dataclass|overload|contextmanager")

    def test_nodes(self):
        for path, tree in trees():
            for node in ast.walk(tree):
                self.assertNotIsInstance(node, NO_NODES, path)
                if isinstance(node, ast.Constant):
                    self.assertNotIsInstance(node.value, (float, complex), path)
                    self.assertFalse(isinstance(node.value, str) and "%" in node.value, path)
                if isinstance(node, ast.Call) and isinstance(node.func, ast.Name):
                    self.assertNotIn(node.func.id, {"set", "frozenset", "bytes", "chr", "map"}, path)
                if isinstance(node, ast.Compare):
                    for sign, side in zip(node.ops, node.comparators):
                        if isinstance(sign, (ast.Is, ast.IsNot)):
                            self.assertIsInstance(side, ast.Constant, path)

    def test_errors_are_made_where_they_are_raised(self):
        for path, tree in trees():
            for node in ast.walk(tree):
                if isinstance(node, ast.Raise):
                    self.assertIsInstance(node.exc, ast.Call, path)
                    self.assertRegex(node.exc.func.id, "^[A-Z]", path)


if __name__ == "__main__":
    unittest.main()
