"""The plain rules of form: files, signs, sizes, imports, and what parts of Python the package uses."""

import ast
import builtins
import functools
import pathlib
import unittest

PACKAGE = pathlib.Path(__file__).resolve().parent.parent / "everystart"
LIBRARY = {
    "heapq": {"heappush", "heappop", "heapify", "heapreplace", "heappushpop"},
    "math": {"gcd", "lcm", "isqrt", "comb", "perm", "factorial"},
    "itertools": {"product", "combinations", "permutations", "chain", "accumulate", "pairwise", "islice", "zip_longest"},
    "collections": {"defaultdict", "deque"},
}
BUILTINS = set(
    "len range enumerate zip min max sum abs sorted reversed int str bool bytes list tuple dict set frozenset isinstance ord repr any all divmod"
    " Exception ValueError TypeError KeyError IndexError LookupError ZeroDivisionError ArithmeticError OverflowError RuntimeError"
    " NotImplementedError NotImplemented property".split()
)
METHODS = set(
    "append clear copy count endswith extend find get index insert isalnum isalpha isdigit islower isspace isupper items join keys ljust lower lstrip"
    " partition pop remove replace reverse rfind rjust rpartition rsplit rstrip setdefault split splitlines startswith strip update upper values zfill"
    " bit_length removeprefix removesuffix".split()
)
VIEWS = {"range", "zip", "enumerate", "reversed"}
GOING_OVER = {"list", "tuple", "dict", "sorted", "sum", "any", "all", "enumerate", "zip", "min", "max"}
KEYWORDS = {"sorted": {"key", "reverse"}, "min": {"key", "default"}, "max": {"key", "default"}, "sum": {"start"}, "enumerate": {"start"}, "zip": {"strict"}}
BARRED = (
    ast.AsyncFunctionDef, ast.Await, ast.Global, ast.GeneratorExp, ast.NamedExpr, ast.With, ast.Yield, ast.YieldFrom, ast.JoinedStr, ast.Div,
    ast.Match, ast.Starred, ast.AnnAssign,
)


def files():
    return sorted(path for path in PACKAGE.rglob("*") if "__pycache__" not in path.parts and path.is_file())


@functools.lru_cache(maxsize=None)
def trees():
    return {path.stem: ast.parse(path.read_text()) for path in files()}


@functools.lru_cache(maxsize=None)
def properties():
    """Return the names of all properties of the package's classes."""
    return {node.name for tree in trees().values() for parent in ast.walk(tree) if isinstance(parent, ast.ClassDef)
            for node in parent.body if isinstance(node, ast.FunctionDef) and node.decorator_list}


def with_parents(tree):
    """Return each node of tree with the one around it."""
    return [(node, parent) for parent in ast.walk(tree) for node in ast.iter_child_nodes(parent)]


def bound(tree):
    """Return the names that a file binds at module level."""
    found = []
    for node in tree.body:
        if isinstance(node, (ast.FunctionDef, ast.ClassDef)):
            found.append(node.name)
        elif isinstance(node, ast.Assign):
            found += [target.id for target in node.targets]
        elif isinstance(node, ast.ImportFrom):
            found += [alias.asname or alias.name for alias in node.names]
    return found


def locals_of(tree):
    """Return the names of all parameters and local variables of a file."""
    found = {node.arg for node in ast.walk(tree) if isinstance(node, ast.arg)}
    for function in ast.walk(tree):
        if isinstance(function, ast.FunctionDef):
            found |= {node.id for node in ast.walk(function) if isinstance(node, ast.Name) and isinstance(node.ctx, ast.Store)}
    return found


class FilesTest(unittest.TestCase):
    def test_files(self):
        self.assertIn("__init__.py", [path.name for path in files()])
        for path in files():
            with self.subTest(file=path.name):
                self.assertRegex(path.name, r"\A[a-z0-9_]+\.py\Z")
                self.assertNotIn(path.stem, dir(builtins))

    def test_signs_and_sizes(self):
        for path in files():
            lines = path.read_bytes().decode("ascii").split("\n")
            with self.subTest(file=path.name):
                self.assertLessEqual(len(lines) - 1, 399)
                self.assertLessEqual(max(len(line) for line in lines), 120)
                self.assertTrue(all(" " <= sign <= "~" for line in lines for sign in line))

    def test_functions_have_at_most_40_lines_and_a_docstring(self):
        for name, tree in trees().items():
            for node in ast.walk(tree):
                if isinstance(node, ast.FunctionDef):
                    with self.subTest(file=name, function=node.name):
                        self.assertLessEqual(node.end_lineno - node.lineno + 1, 40)
                        self.assertTrue(node.name in ("__init__", "__eq__") or ast.get_docstring(node))


class ImportsTest(unittest.TestCase):
    def test_imports(self):
        for name, tree in trees().items():
            for node in ast.walk(tree):
                with self.subTest(file=name):
                    self.assertNotIsInstance(node, ast.Import)
                    if isinstance(node, ast.ImportFrom):
                        self.check_import(node)

    def check_import(self, node):
        self.assertEqual(node.level, 0)
        names = {alias.name for alias in node.names}
        self.assertNotIn("*", names)
        if node.module in LIBRARY:
            self.assertLessEqual(names, LIBRARY[node.module])
            return
        package, _, file = node.module.partition(".")
        self.assertEqual(package, "everystart")
        defined = [found for found in bound(trees()[file])]
        imported = {alias.name for other in trees()[file].body if isinstance(other, ast.ImportFrom) for alias in other.names}
        for name in names:
            self.assertIn(name, defined)
            self.assertNotIn(name, imported)

    def test_what_is_imported_is_used(self):
        for name, tree in trees().items():
            used = {node.id for node in ast.walk(tree) if isinstance(node, ast.Name)}
            for node in tree.body:
                if isinstance(node, ast.ImportFrom):
                    with self.subTest(file=name):
                        self.assertLessEqual({alias.asname or alias.name for alias in node.names}, used)

    def test_no_two_files_import_from_each_other(self):
        needs = {name: {node.module.partition(".")[2] for node in tree.body if isinstance(node, ast.ImportFrom)} - {""} for name, tree in trees().items()}
        done = set()
        while len(done) < len(needs):
            ready = {name for name in needs if name not in done and needs[name] <= done}
            self.assertTrue(ready, set(needs) - done)
            done |= ready


class LanguageTest(unittest.TestCase):
    def test_module_level(self):
        for name, tree in trees().items():
            for node in tree.body:
                with self.subTest(file=name, line=node.lineno):
                    if isinstance(node, ast.Expr):
                        self.assertIsInstance(node.value, ast.Constant)
                    elif isinstance(node, ast.Assign):
                        self.assertEqual(len(node.targets), 1)
                    else:
                        self.assertIsInstance(node, (ast.FunctionDef, ast.ClassDef, ast.ImportFrom))
            with self.subTest(file=name):
                self.assertEqual(len(bound(tree)), len(set(bound(tree))))

    def test_names(self):
        for name, tree in trees().items():
            own, used = locals_of(tree), set(bound(tree))
            imports = {alias.asname or alias.name for node in tree.body if isinstance(node, ast.ImportFrom) for alias in node.names}
            classes = {node.name for node in tree.body if isinstance(node, ast.ClassDef)}
            with self.subTest(file=name):
                self.assertEqual((own | used) & set(dir(builtins)) - {"__doc__", "_"}, set())
                self.assertEqual(own & (imports | classes), set())
                loaded = {node.id for node in ast.walk(tree) if isinstance(node, ast.Name)}
                self.assertLessEqual(loaded - own - used, BUILTINS)
                self.assertFalse([found for found in own | used if found.startswith("__")])

    def test_parts_of_python(self):
        for name, tree in trees().items():
            for node in ast.walk(tree):
                with self.subTest(file=name, line=getattr(node, "lineno", None)):
                    self.assertNotIsInstance(node, BARRED)
                    if isinstance(node, ast.Constant):
                        self.assertIsInstance(node.value, (int, str, bytes, type(None)))
                        self.assertFalse(isinstance(node.value, str) and "%" in node.value)
                    if isinstance(node, (ast.FunctionDef, ast.ClassDef)):
                        self.assertLessEqual(len(node.decorator_list), 1 if node.name in properties() else 0)
                    if isinstance(node, ast.BinOp) and isinstance(node.op, ast.Pow):
                        self.assertIsInstance(node.right, ast.Constant)
                        self.assertLessEqual(node.right.value, 64)

    def test_properties_are_read_alone(self):
        for name, tree in trees().items():
            for node in ast.walk(tree):
                if isinstance(node, ast.Attribute) and node.attr in properties():
                    with self.subTest(file=name, line=node.lineno):
                        self.assertIsInstance(node.ctx, ast.Load)
                for decorator in getattr(node, "decorator_list", []):
                    self.assertEqual(decorator.id, "property")
                    self.assertEqual(len(node.args.args), 1)

    def test_own_errors_are_raised_on_the_spot_and_caught_by_name(self):
        own = set(bound(trees()["errors"]))
        for name, tree in trees().items():
            for node in ast.walk(tree):
                with self.subTest(file=name, line=getattr(node, "lineno", None)):
                    if isinstance(node, ast.Try):
                        self.assertEqual(node.finalbody, [])
                        self.assertLessEqual({handler.type.id for handler in node.handlers}, own)
                    if isinstance(node, ast.Raise):
                        self.assertIn(node.exc.func.id, own)
                        self.assertTrue(node.cause is None or node.cause.value is None)

    def test_calls(self):
        methods = {node.name for tree in trees().values() for parent in ast.walk(tree) if isinstance(parent, ast.ClassDef)
                   for node in parent.body if isinstance(node, ast.FunctionDef)}
        for name, tree in trees().items():
            for node, parent in with_parents(tree):
                if isinstance(node, ast.Call):
                    with self.subTest(file=name, line=node.lineno):
                        self.check_call(node, parent, methods)

    def check_call(self, node, parent, methods):
        if isinstance(node.func, ast.Attribute):
            self.assertIn(node.func.attr, METHODS | methods)
            if node.func.attr not in methods:
                self.assertEqual(node.keywords, [])
            view = node.func.attr in ("items", "keys", "values")
        else:
            self.assertIsInstance(node.func, ast.Name)
            if node.func.id in BUILTINS:
                self.assertLessEqual({keyword.arg for keyword in node.keywords}, KEYWORDS.get(node.func.id, set()))
            view = node.func.id in VIEWS
        if view:
            looped = isinstance(parent, (ast.For, ast.comprehension)) and parent.iter is node
            called = isinstance(parent, ast.Call) and isinstance(parent.func, ast.Name) and parent.func.id in GOING_OVER
            joined = isinstance(parent, ast.Call) and isinstance(parent.func, ast.Attribute) and parent.func.attr == "join"
            self.assertTrue(looped or called and parent.args[0] is node or joined)

    def test_sets_are_sorted_or_counted_at_once(self):
        for name, tree in trees().items():
            for node, parent in with_parents(tree):
                made = isinstance(node, (ast.Set, ast.SetComp))
                made = made or isinstance(node, ast.Call) and isinstance(node.func, ast.Name) and node.func.id in ("set", "frozenset")
                if made:
                    with self.subTest(file=name, line=node.lineno):
                        self.assertTrue(isinstance(parent, ast.Call) and parent.func.id in ("sorted", "len"))

    def test_attributes_are_assigned_in_the_package(self):
        found = {node.attr for tree in trees().values() for node in ast.walk(tree) if isinstance(node, ast.Attribute) and isinstance(node.ctx, ast.Store)}
        for name, tree in trees().items():
            called = {id(node.func) for node in ast.walk(tree) if isinstance(node, ast.Call)}
            for node in ast.walk(tree):
                if isinstance(node, ast.Attribute) and isinstance(node.ctx, ast.Load) and id(node) not in called:
                    with self.subTest(file=name, line=node.lineno):
                        self.assertIn(node.attr, found | properties())


if __name__ == "__main__":
    unittest.main()
