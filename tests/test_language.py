"""The files of the package keep to the rules of the language that can be seen in the code."""

import ast
import builtins
import pathlib
import unittest

PACKAGE = pathlib.Path(__file__).resolve().parent.parent / "rimsewn"
FILES = sorted(PACKAGE.glob("*.py"))
BUILTINS = set(dir(builtins))
ALLOWED = set("""len range enumerate zip min max sum abs sorted reversed int str bool list tuple dict set
isinstance ord repr any all divmod map ValueError TypeError KeyError IndexError LookupError
NotImplementedError super staticmethod classmethod property True False None""".split())
METHODS = set("""append clear copy count endswith extend find get index insert isalnum isalpha isdigit
islower isspace isupper items join keys ljust lower lstrip partition pop remove replace reverse rfind
rjust rpartition rsplit rstrip setdefault split splitlines startswith strip update upper values zfill
bit_length isascii add discard""".split())
DUNDERS = set("""__init__ __eq__ __repr__ __str__ __len__ __call__ __iter__ __invert__ __bool__
__contains__""".split())
BARRED = set("""register mro elements open input law typing enum namedtuple abstractmethod dataclass
overload contextmanager Protocol Generic ABC eval exec globals locals vars dir id type os gc""".split())
LIBRARY = {"heapq", "math", "itertools"}
ITERATED = ("zip", "enumerate", "reversed", "items", "keys", "values", "combinations")
TAKERS = ("list", "tuple", "dict", "sorted", "sum", "any", "all", "enumerate", "zip", "min", "max", "join")


def trees():
    return [(path, ast.parse(path.read_text(encoding="utf-8"))) for path in FILES]


def functions(tree):
    return [node for node in ast.walk(tree) if isinstance(node, (ast.FunctionDef, ast.Lambda))]


def parents(tree):
    return {child: node for node in ast.walk(tree) for child in ast.iter_child_nodes(node)}


def called(node):
    """The plain name that a call calls, or the name of its method."""
    if not isinstance(node, ast.Call):
        return None
    return getattr(node.func, "id", getattr(node.func, "attr", None))


def bound(function):
    """The parameters and local variables of a function."""
    args = function.args
    names = [arg.arg for arg in args.posonlyargs + args.args + args.kwonlyargs]
    names += [arg.arg for arg in (args.vararg, args.kwarg) if arg is not None]
    names += [node.id for node in ast.walk(function)
              if isinstance(node, ast.Name) and isinstance(node.ctx, ast.Store)]
    return set(names)


def defined(tree):
    return {node.name for node in tree.body if isinstance(node, (ast.FunctionDef, ast.ClassDef))} | {
        node.targets[0].id for node in tree.body if isinstance(node, ast.Assign)}


class LanguageTest(unittest.TestCase):
    def test_files(self):
        for path in PACKAGE.iterdir():
            self.assertTrue(path.suffix == ".py" or path.name == "__pycache__", path)
        self.assertLessEqual(len(FILES), 100)
        for path in FILES:
            text = path.read_text(encoding="utf-8")
            self.assertTrue(all(" " <= sign <= "~" or sign == "\n" for sign in text), path)
            self.assertLessEqual(len(text.splitlines()), 399, path)
            for line in text.splitlines():
                self.assertLessEqual(len(line), 120, (path, line))

    def test_module_level(self):
        for path, tree in trees():
            names = []
            for node in tree.body:
                self.assertIsInstance(node, (ast.Expr, ast.ImportFrom, ast.FunctionDef, ast.ClassDef, ast.Assign), path)
                if isinstance(node, ast.Expr):
                    self.assertIsInstance(node.value, ast.Constant, path)
                if isinstance(node, ast.ImportFrom):
                    names += [alias.asname or alias.name for alias in node.names]
            names += list(defined(tree))
            self.assertEqual(len(names), len(set(names)), path)

    def test_imports(self):
        known = {path.stem: defined(tree) for path, tree in trees()}
        needs = {}
        for path, tree in trees():
            used = {node.id for node in ast.walk(tree) if isinstance(node, ast.Name)}
            needs[path.stem] = set()
            for node in [node for node in tree.body if isinstance(node, ast.ImportFrom)]:
                self.assertEqual(node.level, 0)
                for alias in node.names:
                    self.assertIsNone(alias.asname)
                    self.assertIn(alias.name, used, path)
                if node.module not in LIBRARY:
                    top, module = node.module.split(".")
                    self.assertEqual(top, "rimsewn")
                    needs[path.stem].add(module)
                    self.assertLessEqual({alias.name for alias in node.names}, known[module], path)
        while needs:
            free = [module for module in needs if not needs[module] & set(needs)]
            self.assertTrue(free, "files import from each other")
            for module in free:
                del needs[module]

    def test_names(self):
        for path, tree in trees():
            taken = {node.name for node in tree.body if isinstance(node, ast.ClassDef)}
            for node in tree.body:
                if isinstance(node, ast.ImportFrom):
                    taken |= {alias.name for alias in node.names}
            for function in functions(tree):
                self.assertLessEqual(getattr(function, "end_lineno") - function.lineno + 1, 40, path)
                for name in bound(function):
                    self.assertNotIn(name, taken | BUILTINS | BARRED, (path, function.lineno))
            for node in ast.walk(tree):
                if isinstance(node, ast.Name) and isinstance(node.ctx, ast.Load) and node.id in BUILTINS:
                    self.assertIn(node.id, ALLOWED, (path, node.lineno))
                if isinstance(node, ast.Attribute):
                    self.assertNotIn(node.attr, BARRED, (path, node.lineno))
                if isinstance(node, ast.FunctionDef) and node.name.startswith("__"):
                    self.assertIn(node.name, DUNDERS, path)

    def test_own_names_are_free(self):
        held = set()
        for value in ("", 0, [], {}, set(), b"", ()):
            held |= {name for name in dir(value) if not name.startswith("__")}
        for path, tree in trees():
            self.assertFalse(defined(tree) & BUILTINS, path)
            methods, attributes = set(), set()
            for node in ast.walk(tree):
                if isinstance(node, ast.ClassDef):
                    methods |= {row.name for row in node.body if isinstance(row, ast.FunctionDef)}
                if isinstance(node, ast.Attribute) and isinstance(node.ctx, ast.Store):
                    attributes.add(node.attr)
            self.assertFalse((methods | attributes) & held, path)

    def test_no_name_is_a_method_and_an_attribute(self):
        methods, attributes = set(), set()
        for path, tree in trees():
            for node in ast.walk(tree):
                if isinstance(node, ast.ClassDef):
                    methods |= {row.name for row in node.body if isinstance(row, ast.FunctionDef)}
                if isinstance(node, ast.Attribute) and isinstance(node.ctx, ast.Store):
                    attributes.add(node.attr)
        self.assertFalse(methods & attributes)

    def test_generators_have_names_of_their_own(self):
        names = []
        makers = set()
        for path, tree in trees():
            for node in ast.walk(tree):
                if isinstance(node, ast.FunctionDef):
                    names.append(node.name)
                    if any(isinstance(inner, ast.Yield) for inner in ast.walk(node)):
                        makers.add(node.name)
        for name in makers:
            self.assertEqual(names.count(name), 1, name)

    def test_names_of_the_library_are_only_called(self):
        for path, tree in trees():
            taken = {alias.name for node in tree.body if isinstance(node, ast.ImportFrom) and node.module in LIBRARY
                     for alias in node.names}
            above = parents(tree)
            for node in ast.walk(tree):
                if isinstance(node, ast.Name) and node.id in taken:
                    self.assertTrue(isinstance(above[node], ast.Call) and above[node].func is node, (path, node.lineno))

    def test_methods(self):
        own = {node.name for path, tree in trees() for node in ast.walk(tree) if isinstance(node, ast.FunctionDef)}
        for path, tree in trees():
            for node in ast.walk(tree):
                if isinstance(node, ast.Call) and isinstance(node.func, ast.Attribute):
                    self.assertIn(node.func.attr, own | METHODS, (path, node.lineno))
                    self.assertNotEqual(node.func.attr, "sort", path)

    def test_statements_and_expressions(self):
        barred = (ast.Global, ast.Import, ast.GeneratorExp, ast.Div, ast.AnnAssign, ast.Match, ast.With,
                  ast.AsyncFunctionDef, ast.Await, ast.NamedExpr)
        for path, tree in trees():
            for node in ast.walk(tree):
                where = (path, getattr(node, "lineno", 0))
                self.assertNotIsInstance(node, barred, where)
                if isinstance(node, ast.Constant):
                    self.assertNotIsInstance(node.value, (float, bytes), where)
                if isinstance(node, ast.Constant) and isinstance(node.value, str):
                    self.assertNotIn("%", node.value, where)
                if isinstance(node, ast.Compare):
                    for operator, right in zip(node.ops, node.comparators):
                        if isinstance(operator, (ast.Is, ast.IsNot)):
                            self.assertIsInstance(right, ast.Constant, where)
                if isinstance(node, ast.Raise) and node.exc is not None:
                    self.assertIsInstance(node.exc, ast.Call, where)
                if isinstance(node, ast.ExceptHandler):
                    self.assertIsNotNone(node.type, where)
                if isinstance(node, (ast.FunctionDef, ast.ClassDef)):
                    for decorator in node.decorator_list:
                        self.assertIn(decorator.id, ("staticmethod", "classmethod", "property"), where)

    def test_exponents(self):
        for path, tree in trees():
            for node in ast.walk(tree):
                if isinstance(node, ast.BinOp) and isinstance(node.op, ast.Pow):
                    self.assertIsInstance(node.right, ast.Constant, (path, node.lineno))

    def test_caught_errors_are_own_or_of_missing_keys(self):
        own = {node.name for path, tree in trees() for node in tree.body if isinstance(node, ast.ClassDef) and path.stem == "errors"}
        for path, tree in trees():
            for node in ast.walk(tree):
                if isinstance(node, ast.ExceptHandler):
                    caught = node.type.elts if isinstance(node.type, ast.Tuple) else [node.type]
                    self.assertLessEqual({name.id for name in caught}, own | {"KeyError"}, (path, node.lineno))

    def test_sets(self):
        for path, tree in trees():
            above = parents(tree)
            for node in ast.walk(tree):
                if called(node) == "set" or isinstance(node, (ast.Set, ast.SetComp)):
                    parent = above[node]
                    self.assertTrue(isinstance(parent, (ast.Assign, ast.Compare)) or called(parent) in ("sorted", "len"),
                                    (path, node.lineno))

    def test_iterated_at_once(self):
        makers = set(ITERATED)
        for path, tree in trees():
            makers |= {node.name for node in ast.walk(tree) if isinstance(node, ast.FunctionDef)
                       and any(isinstance(inner, ast.Yield) for inner in ast.walk(node))}
        for path, tree in trees():
            above = parents(tree)
            for node in ast.walk(tree):
                if called(node) in makers or called(node) == "range":
                    parent = above[node]
                    if called(node) == "range" and isinstance(parent, ast.Assign) and isinstance(parent.targets[0], ast.Name):
                        continue
                    loops = isinstance(parent, (ast.For, ast.comprehension)) and parent.iter is node
                    self.assertTrue(loops or called(parent) in TAKERS, (path, node.lineno))

    def test_double_underscore_methods_end_in_a_return(self):
        for path, tree in trees():
            for node in ast.walk(tree):
                if isinstance(node, ast.FunctionDef) and node.name in ("__len__", "__str__", "__bool__", "__eq__"):
                    self.assertEqual([type(row) for row in node.body], [ast.Return], (path, node.lineno))


if __name__ == "__main__":
    unittest.main()
