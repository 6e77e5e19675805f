"""The rules of LANGUAGE.md that can be told from the source at once."""

import ast
from pathlib import Path
from unittest import TestCase

FOLDER = Path(__file__).resolve().parent.parent / "ignorelines"
LIBRARY = {
    "heapq": {"heappush", "heappop", "heapify", "heapreplace", "heappushpop"},
    "math": {"gcd", "lcm", "isqrt", "comb", "perm", "factorial"},
    "itertools": {"product", "combinations", "permutations"},
}
BUILTINS = set(
    "len range enumerate zip min max sum abs sorted reversed int str bool list tuple dict set frozenset isinstance ord "
    "repr any all divmod iter next map super property classmethod staticmethod ValueError TypeError NotImplemented".split()
)
NOT_USED = {
    "type", "typing", "enum", "Enum", "Flag", "ABC", "namedtuple", "register", "mro", "elements", "open", "input", "law",
    "eval", "exec", "getattr", "setattr", "vars", "globals", "locals", "id", "dir", "os", "sys",
}
METHODS = set(
    "append clear copy count endswith extend find get index insert isalnum isalpha isdigit islower isspace isupper items "
    "join keys ljust lower lstrip partition pop remove replace reverse rfind rjust rpartition rsplit rstrip setdefault "
    "split splitlines startswith strip update upper values zfill bit_length sort".split()
)
# What is walked on the spot, and the calls that walk it; of them, the methods without arguments.
WALKED = {"range", "zip", "enumerate", "reversed", "map"}
VIEWS = {"items", "keys", "values"}
WALKERS = {"list", "tuple", "dict", "sorted", "sum", "any", "all", "enumerate", "zip", "min", "max"}
CHANGING = {
    "append", "clear", "extend", "insert", "pop", "remove", "reverse", "setdefault", "update", "heappush", "heappop",
}
LEFT_OUT = (
    ast.GeneratorExp, ast.With, ast.Global, ast.AsyncFunctionDef, ast.Await, ast.AnnAssign, ast.Lambda, ast.Match,
    ast.Div, ast.Set,
)


def files():
    return sorted(FOLDER.rglob("*.py"))


def trees():
    return [(path.name, ast.parse(path.read_text())) for path in files()]


def own_classes(file):
    """The names of the classes of a file."""
    tree = ast.parse((FOLDER / file).read_text())
    return [node.name for node in tree.body if isinstance(node, ast.ClassDef)]


def own_methods():
    return {
        node.name
        for _, tree in trees()
        for made in ast.walk(tree) if isinstance(made, ast.ClassDef)
        for node in made.body if isinstance(node, ast.FunctionDef)
    }


def is_walked(node):
    """Whether an expression is one that has to be walked on the spot."""
    if not isinstance(node, ast.Call):
        return False
    if isinstance(node.func, ast.Name):
        return node.func.id in WALKED
    return isinstance(node.func, ast.Attribute) and node.func.attr in VIEWS


def walking_places(tree):
    """All expressions that are walked on the spot."""
    found = []
    for node in ast.walk(tree):
        if isinstance(node, (ast.For, ast.comprehension)):
            found.append(node.iter)
        elif isinstance(node, ast.Call) and isinstance(node.func, ast.Name) and node.func.id in WALKERS:
            found += node.args if node.func.id == "zip" else node.args[:1]
    return found


def changed_names(node):
    """The names of the lists and dicts that are changed in a statement, and in those inside it."""
    found = set()
    for part in ast.walk(node):
        if isinstance(part, ast.Call) and isinstance(part.func, ast.Attribute) and part.func.attr in CHANGING:
            found.add(ast.unparse(part.func.value))
        elif isinstance(part, ast.Call) and isinstance(part.func, ast.Name) and part.func.id in CHANGING:
            found.add(ast.unparse(part.args[0]))
        elif isinstance(part, ast.Subscript) and not isinstance(part.ctx, ast.Load):
            found.add(ast.unparse(part.value))
        elif isinstance(part, ast.AugAssign):
            found.add(ast.unparse(part.target))
    return found


def with_other_names(function, names):
    """The names, and those that a plain assignment of the function makes names of the same things."""
    found = set(names)
    assignments = [node for node in ast.walk(function) if isinstance(node, ast.Assign)]
    for _ in assignments:
        for node in assignments:
            both = {ast.unparse(node.value), *[ast.unparse(target) for target in node.targets]}
            if isinstance(node.value, (ast.Name, ast.Attribute)) and both & found:
                found |= both
    return found


class TestSource(TestCase):
    def test_folder(self):
        others = [path for path in FOLDER.rglob("*") if path.suffix != ".py" and "__pycache__" not in path.parts]
        self.assertEqual(others, [])
        self.assertIn(FOLDER / "__init__.py", files())

    def test_sizes(self):
        for path in files():
            rows = path.read_text().split("\n")
            self.assertLess(len(rows), 400, path)
            self.assertLessEqual(max(len(row) for row in rows), 120, path)
            for node in ast.walk(ast.parse(path.read_text())):
                if isinstance(node, ast.FunctionDef):
                    self.assertLessEqual(node.end_lineno - node.lineno, 39, (path, node.name))

    def test_characters(self):
        for path in files():
            for sign in path.read_bytes():
                self.assertTrue(sign == 10 or 32 <= sign <= 126, path)

    def test_imports(self):
        for name, tree in trees():
            for node in ast.walk(tree):
                self.assertNotIsInstance(node, ast.Import)
                if isinstance(node, ast.ImportFrom):
                    self.assertEqual(node.level, 0)
                    self.assertTrue(all(part.asname is None for part in node.names))
                    if node.module in LIBRARY:
                        self.assertLessEqual({part.name for part in node.names}, LIBRARY[node.module])
                    else:
                        self.assertTrue(node.module.startswith("ignorelines."), name)

    def test_what_is_left_out(self):
        for name, tree in trees():
            for node in ast.walk(tree):
                self.assertNotIsInstance(node, LEFT_OUT, name)
                if isinstance(node, ast.Constant) and isinstance(node.value, str):
                    self.assertNotIn("%", node.value)
                if isinstance(node, ast.Name):
                    self.assertNotIn(node.id, NOT_USED, name)
                if isinstance(node, ast.Attribute):
                    self.assertFalse(node.attr in NOT_USED, (name, node.attr))

    def test_only_own_errors_are_caught(self):
        own = own_classes("errors.py")
        for name, tree in trees():
            for node in ast.walk(tree):
                if isinstance(node, ast.Try):
                    self.assertEqual([node.finalbody, node.orelse], [[], []])
                if isinstance(node, ast.ExceptHandler):
                    self.assertIsInstance(node.type, ast.Name)
                    self.assertIn(node.type.id, own, name)

    def test_calls(self):
        known = own_methods()
        for name, tree in trees():
            bound = {node.name for node in ast.walk(tree) if isinstance(node, (ast.FunctionDef, ast.ClassDef))}
            bound |= {part.name for node in ast.walk(tree) if isinstance(node, ast.ImportFrom) for part in node.names}
            for node in ast.walk(tree):
                if isinstance(node, ast.Call) and isinstance(node.func, ast.Name):
                    self.assertIn(node.func.id, BUILTINS | bound | {"cls"}, name)
                if isinstance(node, ast.Call) and isinstance(node.func, ast.Attribute):
                    self.assertIn(node.func.attr, METHODS | known, name)

    def test_ranges_and_views_are_walked_on_the_spot(self):
        for name, tree in trees():
            places = walking_places(tree)
            for node in ast.walk(tree):
                if is_walked(node):
                    self.assertIn(node, places, (name, node.lineno))

    def test_what_a_loop_walks_is_not_changed_in_it(self):
        for name, tree in trees():
            for function in ast.walk(tree):
                if not isinstance(function, ast.FunctionDef):
                    continue
                for loop in ast.walk(function):
                    if isinstance(loop, ast.For) and isinstance(loop.iter, (ast.Name, ast.Attribute)):
                        walked = with_other_names(function, {ast.unparse(loop.iter)})
                        self.assertEqual(walked & changed_names(loop), set(), (name, loop.lineno))

    def test_module_level(self):
        kinds = (ast.ImportFrom, ast.FunctionDef, ast.ClassDef, ast.Assign)
        for name, tree in trees():
            self.assertIsNotNone(ast.get_docstring(tree), name)
            for node in tree.body[1:]:
                self.assertIsInstance(node, kinds, name)
