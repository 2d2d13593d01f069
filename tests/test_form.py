"""The form of the package's code: sizes, characters, imports, names and builtins.

These are the rules of the Python subset that can be checked by looking at one file.
"""

import ast
import builtins
import os
import re
import unittest

import hornbook

FOLDER = os.path.dirname(hornbook.__file__)
ALLOWED_BUILTINS = set(
    "len range enumerate zip min max sum abs sorted reversed int str bool bytes list tuple dict set frozenset"
    " isinstance ord repr any all divmod pow getattr hasattr setattr map iter next super property"
    " staticmethod classmethod object Exception ValueError TypeError KeyError IndexError LookupError"
    " ZeroDivisionError ArithmeticError OverflowError RuntimeError NotImplementedError AttributeError"
    " StopIteration NotImplemented".split())
FORBIDDEN_NAMES = set(
    "register mro elements open input law version_info with_traceback add_note attrgetter breakpoint builtins"
    " compile copyright credits delattr dir eval exec exit gc globals help id importlib license locals"
    " methodcaller os quit sys type vars".split())
FORBIDDEN_WORDS = re.compile(
    r"\b(typing|typing_extensions|enum|Enum|IntEnum|StrEnum|Flag|IntFlag|Generic|Protocol|ABC|ABCMeta|namedtuple"
    r"|NamedTuple|TypedDict|TYPE_CHECKING|abstractmethod|_wall|_WallAttr)\b|dataclass|overload|contextmanager")
FORBIDDEN_NODES = (
    ast.Global, ast.AsyncFunctionDef, ast.AsyncFor, ast.AsyncWith, ast.Await, ast.Div, ast.MatMult)


def package_files():
    """The names and texts of the files of the package."""
    found = {}
    for name in sorted(os.listdir(FOLDER)):
        if name != "__pycache__":
            with open(os.path.join(FOLDER, name), encoding="utf-8") as file:
                found[name] = file.read()
    return found


def bound_names(tree):
    """Each name that a file binds, with its line."""
    for node in ast.walk(tree):
        if isinstance(node, ast.Name) and not isinstance(node.ctx, ast.Load):
            yield node.id, node.lineno
        elif isinstance(node, (ast.FunctionDef, ast.ClassDef)):
            yield node.name, node.lineno
        elif isinstance(node, ast.arg):
            yield node.arg, node.lineno
        elif isinstance(node, ast.ImportFrom):
            for one in node.names:
                yield one.asname or one.name, node.lineno


def module_names(tree):
    """The names that the statements of a file bind, one for each time."""
    for node in tree.body:
        if isinstance(node, (ast.FunctionDef, ast.ClassDef)):
            yield node.name
        elif isinstance(node, ast.ImportFrom):
            for one in node.names:
                yield one.name
        elif isinstance(node, ast.Assign):
            yield node.targets[0].id


class Form(unittest.TestCase):

    def setUp(self):
        self.texts = package_files()
        self.trees = {name: ast.parse(text) for name, text in self.texts.items()}

    def each_node(self):
        for name, tree in self.trees.items():
            for node in ast.walk(tree):
                yield f"{name}:{getattr(node, 'lineno', 0)}", node

    def test_files(self):
        self.assertIn("__init__.py", self.texts)
        self.assertLessEqual(len(self.texts), 100)
        for name, text in self.texts.items():
            self.assertRegex(name, r"^[a-z_][a-z0-9_]*\.py$")
            self.assertNotIn(name[:-3], dir(builtins))
            self.assertLessEqual(len(text.splitlines()), 399, name)
            for number, line in enumerate(text.splitlines(), 1):
                self.assertLessEqual(len(line), 120, f"{name}:{number}")
            self.assertTrue(all(" " <= letter <= "~" or letter == "\n" for letter in text), name)

    def test_functions_have_at_most_40_lines(self):
        for place, node in self.each_node():
            if isinstance(node, ast.FunctionDef):
                self.assertLessEqual(node.end_lineno - node.lineno + 1, 40, place)

    def test_module_level(self):
        for name, tree in self.trees.items():
            names = list(module_names(tree))
            self.assertEqual(len(names), len(set(names)), name)
            for node in tree.body:
                plain = isinstance(node, (ast.FunctionDef, ast.ClassDef, ast.ImportFrom))
                docstring = isinstance(node, ast.Expr) and isinstance(node.value, ast.Constant)
                value = isinstance(node, ast.Assign) and len(node.targets) == 1
                self.assertTrue(plain or docstring or value, f"{name}:{node.lineno}")

    def test_imports(self):
        reached = {}
        for name, tree in self.trees.items():
            reached[name] = set()
            for node in ast.walk(tree):
                self.assertNotIsInstance(node, ast.Import)
                if isinstance(node, ast.ImportFrom) and node.module.startswith("hornbook"):
                    source = node.module.removeprefix("hornbook.") + ".py"
                    reached[name].add(source)
                    own = [item.name for item in self.trees[source].body
                           if isinstance(item, (ast.FunctionDef, ast.ClassDef))]
                    own += [item.targets[0].id for item in self.trees[source].body if isinstance(item, ast.Assign)]
                    for one in node.names:
                        self.assertIn(one.name, own, f"{name} imports {one.name}")
                        self.assertIsNone(one.asname)
                        self.assertGreater(len(re.findall(rf"\b{one.name}\b", self.texts[name])), 1, one.name)
                elif isinstance(node, ast.ImportFrom):
                    self.assertIn(node.module, ("heapq", "math", "itertools", "collections"))
        while reached:
            free = [name for name in reached if not reached[name] & set(reached)]
            self.assertTrue(free, f"files that import from each other: {sorted(reached)}")
            reached = {name: found for name, found in reached.items() if name not in free}

    def test_names(self):
        for name, tree in self.trees.items():
            top = {node.name for node in tree.body if isinstance(node, ast.ClassDef)}
            for node in tree.body:
                if isinstance(node, ast.ImportFrom):
                    top |= {one.name for one in node.names}
            methods = {item.name for node in tree.body if isinstance(node, ast.ClassDef)
                       for item in node.body if isinstance(item, ast.FunctionDef)}
            found = list(bound_names(tree))
            for bound, line in found:
                place = f"{name}:{line} {bound}"
                self.assertNotIn(bound, FORBIDDEN_NAMES, place)
                self.assertTrue(bound in methods or bound not in dir(builtins), place)
                self.assertTrue(bound in ("__init__", "__len__", "__eq__") or not bound.startswith("__"), place)
            for bound in top:
                self.assertEqual([word for word, _ in found].count(bound), 1, f"{name} {bound}")

    def test_builtins(self):
        for name, tree in self.trees.items():
            own = {bound for bound, _ in bound_names(tree)}
            for node in ast.walk(tree):
                if isinstance(node, ast.Name) and node.id not in own:
                    self.assertIn(node.id, ALLOWED_BUILTINS, f"{name}:{node.lineno}")

    def test_statements_and_expressions(self):
        for place, node in self.each_node():
            self.assertNotIsInstance(node, FORBIDDEN_NODES, place)
            if isinstance(node, ast.Constant):
                self.assertNotIsInstance(node.value, (float, complex), place)
            if isinstance(node, ast.Compare) and isinstance(node.ops[0], (ast.Is, ast.IsNot)):
                self.assertIsInstance(node.comparators[0], ast.Constant, place)
            if isinstance(node, ast.ExceptHandler):
                self.assertIsNotNone(node.type, place)

    def test_strings(self):
        for place, node in self.each_node():
            if isinstance(node, ast.Constant) and isinstance(node.value, str):
                self.assertNotIn("%", node.value, place)
                self.assertFalse(node.value.endswith(("._", ".__")), place)
                self.assertIsNone(re.fullmatch(r"__.*__", node.value), place)
        for name, text in self.texts.items():
            self.assertIsNone(FORBIDDEN_WORDS.search(text), name)


if __name__ == "__main__":
    unittest.main()
