"""The rules of LANGUAGE.md that a program can see without much ado, for all files of the package."""

import ast
import builtins
import pathlib
import re
import unittest

FOLDER = pathlib.Path(__file__).resolve().parent.parent / "deepedge"
FILES = sorted(FOLDER.rglob("*.py"))
TREES = {path.stem: ast.parse(path.read_text()) for path in FILES}

BUILTINS = set(
    "len range enumerate zip min max sum abs sorted reversed int str bool bytes list tuple dict set frozenset isinstance "
    "ord repr any all divmod pow getattr hasattr setattr iter next map super property staticmethod classmethod "
    "Exception ValueError TypeError KeyError IndexError LookupError ZeroDivisionError ArithmeticError OverflowError "
    "RuntimeError NotImplementedError AttributeError StopIteration NotImplemented".split()
)
METHODS = set(
    "append clear copy count endswith extend find get index insert isalnum isalpha isdigit islower isspace isupper items "
    "join keys ljust lower lstrip partition pop remove replace reverse rfind rjust rpartition rsplit rstrip setdefault "
    "split splitlines startswith strip update upper values zfill bit_length add discard title capitalize swapcase "
    "casefold center expandtabs removeprefix removesuffix rindex isascii isdecimal isnumeric istitle isidentifier "
    "isprintable encode decode hex translate format".split()
)
LIBRARY = {
    "heapq": {"heappush", "heappop", "heapify", "heapreplace", "heappushpop"},
    "math": {"gcd", "lcm", "isqrt", "comb", "perm", "factorial"},
    "itertools": {
        "product", "combinations", "permutations", "chain", "accumulate", "pairwise", "islice", "zip_longest",
    },
    "collections": {"defaultdict"},
}
BARRED_WORDS = set(
    "type typing typing_extensions enum Enum IntEnum StrEnum Flag IntFlag Generic Protocol ABC ABCMeta namedtuple "
    "NamedTuple TypedDict TYPE_CHECKING abstractmethod dataclass overload contextmanager _wall _WallAttr".split()
)
# These may stand in strings: the document wants the reason "open".
BARRED_NAMES = BARRED_WORDS | set("register mro elements open input law version_info with_traceback add_note".split())
DUNDERS = set(
    "__init__ __eq__ __repr__ __str__ __len__ __enter__ __exit__ __call__ __iter__ __lt__ __le__ __gt__ __ge__ __ne__ "
    "__bool__ __contains__ __getitem__ __setitem__ __class__ __name__ __slots__ __add__ __sub__ __mul__".split()
)
STATEMENTS = (
    ast.Assign, ast.AugAssign, ast.AnnAssign, ast.If, ast.While, ast.For, ast.Return, ast.Break, ast.Continue, ast.Pass,
    ast.Raise, ast.Assert, ast.Delete, ast.Nonlocal, ast.Match, ast.With, ast.Try, ast.Expr, ast.FunctionDef,
    ast.ClassDef, ast.ImportFrom,
)
ONCE = {"zip", "enumerate", "reversed", "range", "items", "keys", "values"}
SINKS = {"list", "tuple", "dict", "sorted", "sum", "any", "all", "enumerate", "zip", "min", "max", "reversed", "len"}


def parents(tree):
    """The node above each node."""
    return {child: node for node in ast.walk(tree) for child in ast.iter_child_nodes(node)}


def called(node):
    """The name that a call calls, or None."""
    if not isinstance(node, ast.Call):
        return None
    return node.func.id if isinstance(node.func, ast.Name) else getattr(node.func, "attr", None)


def bound_names(tree):
    """All names that the file binds: parameters, variables, functions, classes and imports."""
    for node in ast.walk(tree):
        if isinstance(node, ast.Name) and isinstance(node.ctx, ast.Store):
            yield node.id
        elif isinstance(node, ast.arg):
            yield node.arg
        elif isinstance(node, (ast.FunctionDef, ast.ClassDef)):
            yield node.name
        elif isinstance(node, ast.alias):
            yield node.asname or node.name


class FileTest(unittest.TestCase):
    def test_the_folder(self):
        for path in FOLDER.rglob("*"):
            if "__pycache__" not in path.parts and path.is_file():
                self.assertTrue(path.suffix == ".py" and re.fullmatch("[a-z0-9_]+", path.stem), path)
        self.assertIn("__init__", TREES)

    def test_characters_and_sizes(self):
        for path in FILES:
            lines = path.read_bytes().decode("ascii").split("\n")
            self.assertLessEqual(len(lines), 400, path)
            for line in lines:
                self.assertTrue(len(line) <= 120 and all(" " <= letter <= "~" for letter in line), (path, line))

    def test_functions_are_short(self):
        for stem, tree in TREES.items():
            for node in ast.walk(tree):
                if isinstance(node, ast.FunctionDef):
                    self.assertLessEqual(node.end_lineno - node.lineno + 1, 40, (stem, node.name))
                    self.assertEqual(node.args.posonlyargs, [])


class ModuleTest(unittest.TestCase):
    def test_module_level(self):
        for stem, tree in TREES.items():
            begun = False
            defined = []
            for node in tree.body:
                if isinstance(node, ast.FunctionDef):
                    defined.append(node.name)
                if isinstance(node, ast.Assign):
                    self.check_plain(node.value, defined)
                    self.assertIsInstance(node.targets[0], ast.Name, stem)
                    self.assertEqual(len(node.targets), 1)
                elif isinstance(node, ast.Expr):
                    self.assertIs(node, tree.body[0])
                self.assertIsInstance(node, (ast.Expr, ast.ImportFrom, ast.FunctionDef, ast.ClassDef, ast.Assign), stem)
                begun = begun or isinstance(node, (ast.FunctionDef, ast.ClassDef, ast.Assign))
                self.assertFalse(begun and isinstance(node, ast.ImportFrom), stem)

    def check_plain(self, value, defined):
        """Check that the value is plain; a dict may also hold functions that are defined above it."""
        if isinstance(value, ast.Dict):
            for key, item in zip(value.keys, value.values):
                ast.literal_eval(key)
                if isinstance(item, ast.Name):
                    self.assertIn(item.id, defined)
                else:
                    ast.literal_eval(item)
        else:
            ast.literal_eval(value)

    def test_names_are_bound_once(self):
        for stem, tree in TREES.items():
            names = []
            for node in tree.body:
                if isinstance(node, (ast.FunctionDef, ast.ClassDef)):
                    names.append(node.name)
                elif isinstance(node, ast.ImportFrom):
                    names.extend([alias.name for alias in node.names])
                elif isinstance(node, ast.Assign):
                    names.append(node.targets[0].id)
            self.assertEqual(len(names), len(set(names)), stem)
            taken = {n.name for n in tree.body if isinstance(n, ast.ClassDef)}
            taken |= {alias.name for n in tree.body if isinstance(n, ast.ImportFrom) for alias in n.names}
            for function in ast.walk(tree):
                if isinstance(function, ast.FunctionDef):
                    local = set(bound_names(ast.Module([function.args, *function.body], [])))
                    self.assertFalse(local & taken, (stem, function.name, local & taken))

    def test_imports(self):
        edges = {}
        for stem, tree in TREES.items():
            edges[stem] = set()
            for node in ast.walk(tree):
                self.assertNotIsInstance(node, ast.Import)
                if not isinstance(node, ast.ImportFrom):
                    continue
                self.assertEqual(node.level, 0)
                for alias in node.names:
                    self.assertIsNone(alias.asname)
                    if node.module in LIBRARY:
                        self.assertIn(alias.name, LIBRARY[node.module])
                        continue
                    package, other = node.module.split(".")
                    self.assertEqual(package, "deepedge")
                    self.assertIn(alias.name, self.defined(TREES[other]), (stem, alias.name))
                    edges[stem].add(other)
        while edges:
            free = [stem for stem in edges if not edges[stem] & set(edges)]
            self.assertTrue(free, "files import from each other")
            for stem in free:
                del edges[stem]

    def defined(self, tree):
        names = [node.name for node in tree.body if isinstance(node, (ast.FunctionDef, ast.ClassDef))]
        return names + [node.targets[0].id for node in tree.body if isinstance(node, ast.Assign)]


class NodeTest(unittest.TestCase):
    def test_statements(self):
        for stem, tree in TREES.items():
            for node in ast.walk(tree):
                if isinstance(node, ast.stmt):
                    self.assertIsInstance(node, STATEMENTS, (stem, node.lineno))
                if isinstance(node, (ast.FunctionDef, ast.ClassDef)):
                    for decorator in node.decorator_list:
                        told = ast.unparse(decorator)
                        allowed = told in ("property", "classmethod", "staticmethod") or told == node.name + ".setter"
                        self.assertTrue(allowed, (stem, told))

    def test_expressions(self):
        for stem, tree in TREES.items():
            for node in ast.walk(tree):
                where = (stem, getattr(node, "lineno", 0))
                self.assertNotIsInstance(node, (ast.GeneratorExp, ast.Await, ast.Div), where)
                if isinstance(node, ast.Constant):
                    self.assertNotIsInstance(node.value, (float, complex), where)
                    if isinstance(node.value, str):
                        self.assertNotIn("%", node.value, where)
                        self.assertFalse(re.search(r"__\w+__|\._$|\.__$", node.value), where)
                if isinstance(node, ast.Compare):
                    for operator, right in zip(node.ops, node.comparators):
                        if isinstance(operator, (ast.Is, ast.IsNot)):
                            self.assertIn(getattr(right, "value", 0), (None, True, False), where)

    def test_sets_stand_where_they_may(self):
        for stem, tree in TREES.items():
            above = parents(tree)
            for node in ast.walk(tree):
                if called(node) == "set" or isinstance(node, (ast.Set, ast.SetComp)):
                    higher = above[node]
                    while isinstance(higher, ast.BinOp):
                        higher = above[higher]
                    allowed = isinstance(higher, (ast.Compare, ast.Assign)) or called(higher) in ("sorted", "len")
                    self.assertTrue(allowed, (stem, node.lineno))

    def test_views_are_iterated_on_the_spot(self):
        for stem, tree in TREES.items():
            above = parents(tree)
            for node in ast.walk(tree):
                if called(node) in ONCE:
                    higher = above[node]
                    allowed = isinstance(higher, (ast.For, ast.comprehension)) or called(higher) in SINKS
                    self.assertTrue(allowed, (stem, node.lineno))


class NameTest(unittest.TestCase):
    def test_bound_names(self):
        for stem, tree in TREES.items():
            methods = {n for c in ast.walk(tree) if isinstance(c, ast.ClassDef) for n in c.body}
            for name in bound_names(tree):
                self.assertNotIn(name, vars(builtins), stem)
                self.assertNotIn(name, BARRED_NAMES, stem)
                self.assertTrue(name in DUNDERS or re.fullmatch("_?[A-Za-z][A-Za-z0-9_]*|_", name), (stem, name))
            for node in methods:
                if isinstance(node, ast.FunctionDef) and node.name.startswith("__"):
                    self.assertIn(node.name, DUNDERS, stem)

    def test_builtins(self):
        for stem, tree in TREES.items():
            own = set(bound_names(tree))
            for node in ast.walk(tree):
                if isinstance(node, ast.Name) and node.id not in own:
                    self.assertIn(node.id, BUILTINS, (stem, node.lineno))

    def test_methods_and_attributes(self):
        own = set()
        for tree in TREES.values():
            own |= {n.name for n in ast.walk(tree) if isinstance(n, ast.FunctionDef)}
            own |= {n.attr for n in ast.walk(tree) if isinstance(n, ast.Attribute) and isinstance(n.ctx, ast.Store)}
            bodies = [n.body for n in ast.walk(tree) if isinstance(n, ast.ClassDef)]
            own |= {n.targets[0].id for body in bodies for n in body if isinstance(n, ast.Assign)}
        for stem, tree in TREES.items():
            for node in ast.walk(tree):
                if isinstance(node, ast.Attribute):
                    known = node.attr in own | METHODS | {"__class__", "__name__", "__init__", "setter"}
                    self.assertTrue(known, (stem, node.lineno, node.attr))
                    self.assertNotIn(node.attr, BARRED_NAMES)
                if isinstance(node, ast.Attribute) and node.attr == "__class__":
                    self.assertIn(".__class__.__name__", ast.unparse(parents(tree)[node]))

    def test_barred_words(self):
        for stem, tree in TREES.items():
            for node in ast.walk(tree):
                if isinstance(node, ast.Constant) and isinstance(node.value, str):
                    if not isinstance(parents(tree)[node], ast.Expr):
                        self.assertFalse(set(re.findall(r"\w+", node.value)) & BARRED_WORDS, (stem, node.lineno))


class ErrorRuleTest(unittest.TestCase):
    def test_raises_create_their_error(self):
        for stem, tree in TREES.items():
            for node in ast.walk(tree):
                if isinstance(node, ast.Raise) and node.exc is not None:
                    self.assertIsInstance(node.exc, ast.Call, (stem, node.lineno))
                    self.assertIsInstance(node.exc.func, ast.Name, (stem, node.lineno))
                if isinstance(node, ast.ExceptHandler):
                    self.assertIsNotNone(node.type, (stem, node.lineno))


if __name__ == "__main__":
    unittest.main()
