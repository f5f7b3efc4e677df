"""Rules of the language of the package that can be seen in its files, by their numbers."""

import ast
import builtins
import pathlib
import re
import unittest
import warnings

PACKAGE = pathlib.Path(__file__).resolve().parent.parent / "likedways"
FILES = sorted(PACKAGE.rglob("*.py"))
ALLOWED_BUILTINS = set(
    "len range enumerate zip min max sum abs sorted reversed int str bool bytes list tuple dict set frozenset "
    "isinstance ord repr any all divmod super object float property staticmethod classmethod "
    "Exception ValueError TypeError KeyError IndexError LookupError ZeroDivisionError ArithmeticError OverflowError "
    "RuntimeError NotImplementedError AttributeError StopIteration NotImplemented".split()
)
BARRED_WORDS = (
    "type typing typing_extensions enum Enum IntEnum StrEnum Flag IntFlag Generic Protocol ABC ABCMeta namedtuple "
    "NamedTuple TypedDict TYPE_CHECKING abstractmethod"
).split()
BARRED_NAMES = set(
    "register mro elements open input version_info with_traceback add_note format format_map".split()
)
DUNDERS = re.compile(r"__[a-z]+__\Z")
BUILTIN_METHODS = set(
    "append clear copy count endswith extend find get index insert isalnum isalpha isdigit islower isspace isupper "
    "items join keys ljust lower lstrip partition pop remove replace reverse rfind rjust rpartition rsplit rstrip "
    "setdefault split splitlines startswith strip update upper values zfill bit_length title capitalize swapcase "
    "casefold center expandtabs removeprefix removesuffix rindex isascii isdecimal isnumeric istitle isidentifier "
    "isprintable add discard __init__".split()
)
BARRED_STATEMENTS = (
    ast.Global, ast.AsyncFunctionDef, ast.AsyncFor, ast.AsyncWith, ast.Await, ast.GeneratorExp, ast.Yield,
    ast.YieldFrom, ast.NamedExpr,
)
OWN_DUNDERS = set("__init__ __eq__ __repr__ __str__ __len__ __enter__ __exit__ __call__ __iter__".split())
ITERATED = ("zip", "enumerate", "reversed", "range")
ITERATES = ("list", "tuple", "dict", "sorted", "sum", "any", "all", "enumerate", "zip", "bytes", "min", "max")


def trees():
    for file in FILES:
        yield file, ast.parse(file.read_text(encoding="utf-8"))


def nodes(kind):
    for file, tree in trees():
        for node in ast.walk(tree):
            if isinstance(node, kind):
                yield file, node


def bound_names(tree):
    for node in ast.walk(tree):
        if isinstance(node, ast.Name) and isinstance(node.ctx, ast.Store):
            yield node.id
        elif isinstance(node, ast.arg):
            yield node.arg
        elif isinstance(node, (ast.FunctionDef, ast.ClassDef)):
            yield node.name
        elif isinstance(node, ast.alias):
            yield node.asname or node.name
        elif isinstance(node, ast.Attribute):
            yield node.attr


class TestLanguage(unittest.TestCase):
    def test_files(self):
        """L1, L14: lower-case plain names, nothing but Python files."""
        names = {file.relative_to(PACKAGE).as_posix() for file in FILES}
        self.assertIn("__init__.py", names)
        for path in PACKAGE.rglob("*"):
            if "__pycache__" not in path.parts:
                self.assertRegex(path.name, r"\A[a-z0-9_]+\.py\Z")
                self.assertNotRegex(path.name, r"\A(test|law_|site|conftest)")

    def test_signs_and_sizes(self):
        """L10, L14."""
        for file in FILES:
            text = file.read_text(encoding="utf-8")
            self.assertRegex(text, r"\A[ -~\n]*\Z", file.name)
            self.assertLessEqual(len(text.splitlines()), 400, file.name)
            self.assertLessEqual(max(map(len, text.splitlines())), 120, file.name)
        for file, node in nodes(ast.FunctionDef):
            self.assertLessEqual(node.end_lineno - node.lineno + 1, 40, (file.name, node.name))

    def test_words(self):
        """L17: words that stand nowhere, not even in comments."""
        for file in FILES:
            text = file.read_text(encoding="utf-8")
            for word in BARRED_WORDS:
                self.assertNotRegex(text, rf"\b{word}\b", file.name)
            for part in ("dataclass", "overload", "contextmanager"):
                self.assertNotIn(part, text, file.name)

    def test_imports(self):
        """L2, L16: by full names, from the file that defines the name, at the top."""
        self.assertEqual([], [node.lineno for _, node in nodes(ast.Import)])
        for file, node in nodes(ast.ImportFrom):
            self.assertEqual(node.level, 0, file.name)
            if node.module == "__future__":
                continue
            self.assertRegex(node.module, r"\Alikedways\.[a-z0-9_]+\Z", file.name)
            source = ast.parse((PACKAGE / (node.module.split(".")[1] + ".py")).read_text(encoding="utf-8"))
            defined = {one.name for one in source.body if isinstance(one, (ast.FunctionDef, ast.ClassDef))}
            defined |= {
                name.id for one in source.body if isinstance(one, ast.Assign) for name in one.targets
            }
            for alias in node.names:
                self.assertIn(alias.name, defined, file.name)
                self.assertIsNone(alias.asname)

    def test_names(self):
        """L8, L12, L15, L17."""
        for file, tree in trees():
            for name in bound_names(tree):
                self.assertNotIn(name, BARRED_NAMES, file.name)
                if not DUNDERS.match(name):
                    self.assertFalse(name.startswith("_"), (file.name, name))
            stored = [
                node.id for node in ast.walk(tree) if isinstance(node, ast.Name) and isinstance(node.ctx, ast.Store)
            ] + [node.arg for node in ast.walk(tree) if isinstance(node, ast.arg)]
            for name in stored:
                self.assertFalse(hasattr(builtins, name), (file.name, name))

    def test_bound_once(self):
        """L15: each name of a module is bound once, and nothing within has the name of an import or a class."""
        for file, tree in trees():
            imports = [one.asname or one.name for node in tree.body if isinstance(node, ast.ImportFrom)
                       for one in node.names]
            classes = [node.name for node in tree.body if isinstance(node, ast.ClassDef)]
            functions = [node.name for node in tree.body if isinstance(node, ast.FunctionDef)]
            values = [name.id for node in tree.body if isinstance(node, ast.Assign) for name in node.targets]
            names = imports + classes + functions + values
            self.assertEqual(sorted(set(names)), sorted(names), file.name)
            for function in [node for node in ast.walk(tree) if isinstance(node, ast.FunctionDef)]:
                inner = {node.id for node in ast.walk(function)
                         if isinstance(node, ast.Name) and isinstance(node.ctx, ast.Store)}
                inner |= {node.arg for node in ast.walk(function) if isinstance(node, ast.arg)}
                self.assertEqual(inner & set(imports + classes + functions), set(), (file.name, function.name))

    def test_imports_are_used_and_go_one_way(self):
        """L16: no two files import from each other, neither directly nor through others."""
        sources = {}
        for file, tree in trees():
            nodes_here = [node for node in tree.body if isinstance(node, ast.ImportFrom)]
            sources[file.stem] = {node.module.split(".")[-1] for node in nodes_here}
            read = {node.id for node in ast.walk(tree) if isinstance(node, ast.Name)}
            for node in nodes_here:
                for one in node.names:
                    self.assertIn(one.name, read, file.name)
        left = dict(sources)
        while left:
            free = [name for name in left if not left[name] & set(left)]
            self.assertTrue(free, sorted(left))
            left = {name: left[name] for name in left if name not in free}

    def test_statements(self):
        """L6, L7: nothing barred; where a class has its own equality `any` and the like take lists, so all do."""
        for file, node in nodes(BARRED_STATEMENTS):
            self.fail((file.name, node.lineno))

    def test_methods(self):
        """L25, L26: methods of builtin values are the listed ones; all others are the package's own."""
        own = {node.name for _, one in nodes(ast.ClassDef) for node in one.body if isinstance(node, ast.FunctionDef)}
        for file, node in nodes(ast.Call):
            if isinstance(node.func, ast.Attribute):
                self.assertIn(node.func.attr, BUILTIN_METHODS | own, (file.name, node.lineno))

    def test_classes(self):
        """L5, L18: listed double-underscore methods; none defined twice; no name is a method here, an attribute there."""
        methods, stored, read = set(), set(), set()
        for file, one in nodes(ast.ClassDef):
            names = [node.name for node in one.body if isinstance(node, ast.FunctionDef)]
            self.assertEqual(len(set(names)), len(names), (file.name, one.name))
            self.assertLessEqual({name for name in names if name.startswith("__")}, OWN_DUNDERS, file.name)
            self.assertEqual(one.decorator_list, [])
            methods |= set(names)
        for file, node in nodes(ast.Attribute):
            (stored if isinstance(node.ctx, ast.Store) else read).add(node.attr)
            if isinstance(node.ctx, ast.Store):
                self.assertIsInstance(node.value, ast.Name, (file.name, node.lineno))
        self.assertEqual(methods & stored, set())
        self.assertLessEqual(read, methods | stored | BUILTIN_METHODS)

    def test_functions(self):
        """L4, L5, L15: no decorators; classes and functions with docstrings at module level only, none nested."""
        for file, tree in trees():
            for node in ast.walk(tree):
                if isinstance(node, (ast.FunctionDef, ast.ClassDef)):
                    self.assertEqual(node.decorator_list, [], (file.name, node.lineno))
                if isinstance(node, ast.FunctionDef):
                    self.assertEqual(node.args.posonlyargs, [])
                    inner = [one for one in ast.walk(node) if isinstance(one, (ast.FunctionDef, ast.ClassDef))]
                    self.assertEqual(inner, [node], (file.name, node.lineno))

    def test_errors(self):
        """L19: errors are created where they are raised and caught by the names of own classes."""
        own = {one.name for file, one in nodes(ast.ClassDef) if file.name == "errors.py"}
        for file, node in nodes(ast.Raise):
            if node.exc is not None:
                self.assertIsInstance(node.exc, ast.Call, (file.name, node.lineno))
                self.assertIn(node.exc.func.id, own, (file.name, node.lineno))
                self.assertEqual(node.exc.keywords, [], (file.name, node.lineno))
        for file, node in nodes(ast.ExceptHandler):
            self.assertIsInstance(node.type, ast.Name, (file.name, node.lineno))
            self.assertIn(node.type.id, own, (file.name, node.lineno))

    def test_finally(self):
        """L6: only plain statements, `append` and counting down."""
        for file, node in nodes(ast.Try):
            for one in node.finalbody:
                where = (file.name, one.lineno)
                self.assertIsInstance(one, (ast.Expr, ast.AugAssign), where)
                if isinstance(one, ast.Expr):
                    self.assertEqual(one.value.func.attr, "append", where)
                else:
                    self.assertIsInstance(one.op, ast.Sub, where)
                    self.assertIsInstance(one.value, ast.Constant, where)

    def test_told_by_double_underscore_methods(self):
        """L28: what they return, and that they assign nothing."""
        for file, node in nodes(ast.FunctionDef):
            if node.name in ("__len__", "__str__", "__repr__"):
                self.assertIsInstance(node.body[-1], ast.Return, (file.name, node.name))
                called = {"__len__": "len", "__str__": "str", "__repr__": "repr"}[node.name]
                for one in ast.walk(node):
                    if isinstance(one, ast.Return):
                        self.assertEqual(one.value.func.id, called, (file.name, node.name))
            if node.name in ("__len__", "__str__", "__repr__", "__eq__"):
                for one in ast.walk(node):
                    self.assertNotIsInstance(one, (ast.Assign, ast.AugAssign, ast.Delete), (file.name, node.name))
            if node.name == "__init__":
                self.assertFalse([one for one in ast.walk(node) if isinstance(one, ast.Return)], file.name)

    def test_sets(self):
        """L24: `set(..)` only within `sorted` and `len`, and behind `in`; no set of its own kind elsewhere."""
        for file, tree in trees():
            good = set()
            for node in ast.walk(tree):
                if isinstance(node, ast.Call) and isinstance(node.func, ast.Name) and node.func.id in ("sorted", "len"):
                    good |= {id(one) for one in node.args}
            for node in ast.walk(tree):
                if isinstance(node, ast.Call) and isinstance(node.func, ast.Name) and node.func.id in ("set", "frozenset"):
                    self.assertIn(id(node), good, (file.name, node.lineno))
                self.assertNotIsInstance(node, (ast.Set, ast.SetComp), file.name)

    def test_iterated_at_once(self):
        """L23: what zip, range and the like give is iterated where it stands."""
        for file, tree in trees():
            good = set()
            for node in ast.walk(tree):
                if isinstance(node, (ast.For, ast.comprehension)):
                    good.add(id(node.iter))
                elif isinstance(node, ast.Call) and isinstance(node.func, ast.Name) and node.func.id in ITERATES:
                    good |= {id(one) for one in node.args}
            for node in ast.walk(tree):
                if isinstance(node, ast.Call) and isinstance(node.func, ast.Name) and node.func.id in ITERATED:
                    self.assertIn(id(node), good, (file.name, node.lineno))

    def test_builtins(self):
        """L8: only the listed ones are read."""
        for file, node in nodes(ast.Name):
            if isinstance(node.ctx, ast.Load) and hasattr(builtins, node.id):
                self.assertIn(node.id, ALLOWED_BUILTINS, (file.name, node.lineno))

    def test_values(self):
        """L7, L27: no float, no complex number, no division, no percent sign in a string."""
        for file, node in nodes(ast.Constant):
            self.assertNotIsInstance(node.value, (float, complex), file.name)
            if isinstance(node.value, str):
                self.assertNotIn("%", node.value, file.name)
        for file, node in nodes((ast.BinOp, ast.AugAssign)):
            self.assertNotIsInstance(node.op, (ast.Div, ast.MatMult), (file.name, node.lineno))

    def test_identity(self):
        """L20: `is` only beside None, True and False."""
        for file, node in nodes(ast.Compare):
            for op, right in zip(node.ops, node.comparators):
                if isinstance(op, (ast.Is, ast.IsNot)):
                    self.assertIsInstance(right, ast.Constant, (file.name, node.lineno))
                    self.assertIn(right.value, (None, True, False))

    def test_no_warnings(self):
        """L27: no line for which Python itself gives a warning."""
        with warnings.catch_warnings():
            warnings.simplefilter("error")
            for file in FILES:
                compile(file.read_text(encoding="utf-8"), file.name, "exec")


if __name__ == "__main__":
    unittest.main()
