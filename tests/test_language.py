"""Those rules of the project's Python subset that a look at each file alone can tell."""

import ast
import builtins
import io
import pathlib
import re
import tokenize
import unittest

PACKAGE = pathlib.Path(__file__).resolve().parent.parent / "byteround"

LIBRARY = {
    "heapq": {"heappush", "heappop", "heapify", "heapreplace", "heappushpop"},
    "math": {"gcd", "lcm", "isqrt", "comb", "perm", "factorial"},
    "itertools": {"product", "combinations", "permutations", "chain", "accumulate", "pairwise", "islice", "zip_longest"},
    "collections": {"defaultdict"},
    "__future__": {"annotations"},
}
BUILTINS = set(
    "len range enumerate zip min max sum abs sorted reversed int str bool list tuple dict set frozenset isinstance ord "
    "repr any all divmod pow getattr hasattr setattr map iter next super property staticmethod classmethod object "
    "Exception ValueError TypeError KeyError IndexError LookupError ZeroDivisionError ArithmeticError OverflowError "
    "RuntimeError NotImplementedError AttributeError StopIteration NotImplemented".split())
METHODS = set(
    "append clear copy count endswith extend find get index insert isalnum isalpha isdigit islower isspace isupper items "
    "join keys ljust lower lstrip partition pop remove replace reverse rfind rjust rpartition rsplit rstrip setdefault "
    "split splitlines startswith strip update upper values zfill bit_length title capitalize swapcase casefold center "
    "expandtabs removeprefix removesuffix rindex isascii isdecimal isnumeric istitle isidentifier isprintable translate "
    "sort add discard".split())
BARRED_NAMES = set(
    "register mro elements open input law version_info with_traceback add_note attrgetter breakpoint builtins compile "
    "copyright credits delattr dir eval exec exit gc globals help id importlib license locals methodcaller os quit type "
    "vars sys".split())
BARRED_WORDS = set(
    "typing typing_extensions enum Enum IntEnum StrEnum Flag IntFlag Generic Protocol ABC ABCMeta namedtuple NamedTuple "
    "TypedDict TYPE_CHECKING abstractmethod dataclass overload contextmanager type".split())
DUNDERS = {"__init__", "__eq__", "__repr__", "__str__", "__len__", "__enter__", "__exit__", "__call__", "__iter__"}
BARRED_NODES = (
    ast.Global, ast.AsyncFunctionDef, ast.AsyncFor, ast.AsyncWith, ast.Await, ast.Import, ast.Div)
LISTED = {"any", "all", "min", "max", "sum", "sorted"}


def files():
    return sorted(path for path in PACKAGE.rglob("*") if "__pycache__" not in path.parts)


def trees():
    return [(path.name, ast.parse(path.read_text())) for path in files()]


def own_methods():
    return {
        method.name for _, tree in trees() for thing in ast.walk(tree) if isinstance(thing, ast.ClassDef)
        for method in thing.body if isinstance(method, ast.FunctionDef)}


def bound_names(tree):
    """All names that are bound anywhere in the file, but those of methods and attributes."""
    methods = {id(row) for thing in ast.walk(tree) if isinstance(thing, ast.ClassDef) for row in thing.body}
    for node in ast.walk(tree):
        if isinstance(node, ast.Name) and isinstance(node.ctx, ast.Store):
            yield node.id
        elif isinstance(node, ast.arg):
            yield node.arg
        elif isinstance(node, (ast.FunctionDef, ast.ClassDef)) and id(node) not in methods:
            yield node.name
        elif isinstance(node, ast.alias):
            yield node.asname or node.name


class Files(unittest.TestCase):
    def test_names_and_sizes(self):
        self.assertTrue((PACKAGE / "__init__.py").is_file())
        self.assertLessEqual(len(files()), 100)
        for path in files():
            self.assertRegex(path.name, r"^[a-z0-9_]+\.py$")
            text = path.read_bytes().decode("ascii")
            self.assertRegex(text, r"\A[ -~\n]*\Z")
            lines = text.splitlines()
            self.assertLessEqual(len(lines), 399, path.name)
            self.assertLessEqual(max([len(line) for line in lines], default=0), 120, path.name)

    def test_functions_have_at_most_forty_lines(self):
        for name, tree in trees():
            for node in ast.walk(tree):
                if isinstance(node, ast.FunctionDef):
                    self.assertLessEqual(node.end_lineno - node.lineno + 1, 40, (name, node.name))

    def test_no_barred_words(self):
        for path in files():
            for token in tokenize.generate_tokens(io.StringIO(path.read_text()).readline):
                if token.type == tokenize.COMMENT or token.string.startswith('"""'):
                    continue
                self.assertFalse(set(re.findall(r"\w+", token.string)) & BARRED_WORDS, (path.name, token.string))


class Modules(unittest.TestCase):
    def test_imports(self):
        defined = {
            name[:-3]: {node.name for node in tree.body if isinstance(node, (ast.FunctionDef, ast.ClassDef))} | {
                target.id for node in tree.body if isinstance(node, ast.Assign) for target in node.targets}
            for name, tree in trees()}
        for name, tree in trees():
            for node in ast.walk(tree):
                if isinstance(node, ast.ImportFrom):
                    self.assertEqual(node.level, 0)
                    told = {alias.name for alias in node.names}
                    if node.module in LIBRARY:
                        self.assertLessEqual(told, LIBRARY[node.module], name)
                    else:
                        package, _, module = node.module.partition(".")
                        self.assertEqual(package, "byteround", name)
                        self.assertLessEqual(told, defined[module], name)

    def test_no_circle_of_imports(self):
        leads = {
            name[:-3]: [node.module.partition(".")[2] for node in tree.body
                        if isinstance(node, ast.ImportFrom) and node.module.startswith("byteround.")]
            for name, tree in trees()}
        while leads:
            done = [name for name, others in leads.items() if not any(other in leads for other in others)]
            self.assertTrue(done, leads)
            leads = {name: others for name, others in leads.items() if name not in done}

    def test_module_level(self):
        for name, tree in trees():
            bound = []
            for k, node in enumerate(tree.body):
                if isinstance(node, ast.Expr):
                    self.assertEqual(k, 0, name)
                    self.assertIsInstance(node.value, ast.Constant)
                elif isinstance(node, ast.Assign):
                    self.assertEqual(len(node.targets), 1)
                    self.assertIsInstance(node.targets[0], ast.Name)
                    bound.append(node.targets[0].id)
                    self.assertFalse([part for part in ast.walk(node) if isinstance(part, (ast.Call, ast.Lambda))], name)
                elif isinstance(node, (ast.FunctionDef, ast.ClassDef)):
                    bound.append(node.name)
                else:
                    self.assertIsInstance(node, ast.ImportFrom, name)
                    bound.extend(alias.name for alias in node.names)
            self.assertEqual(len(bound), len(set(bound)), name)


class Code(unittest.TestCase):
    def each(self, *kinds):
        for name, tree in trees():
            for node in ast.walk(tree):
                if isinstance(node, kinds):
                    yield (name, getattr(node, "lineno", 0)), node

    def test_no_barred_parts(self):
        for where, node in self.each(*BARRED_NODES):
            self.fail((where, node))

    def test_names(self):
        allowed = set(dir(builtins)) - BUILTINS
        for where, node in self.each(ast.Name):
            self.assertNotIn(node.id, allowed | BARRED_NAMES, where)
        for name, tree in trees():
            for bound in bound_names(tree):
                self.assertNotIn(bound, set(dir(builtins)) | BARRED_NAMES, name)
                self.assertRegex(bound, r"^(_|_?[A-Za-z][A-Za-z0-9_]*)$", name)

    def test_methods(self):
        allowed = METHODS | own_methods()
        for where, node in self.each(ast.Call):
            if isinstance(node.func, ast.Attribute):
                self.assertIn(node.func.attr, allowed, where)
        for method in own_methods():
            self.assertTrue(method in DUNDERS or not method.startswith("__"), method)

    def test_constants(self):
        for where, node in self.each(ast.Constant):
            self.assertNotIsInstance(node.value, (float, complex, bytes), where)
            if isinstance(node.value, str):
                self.assertNotIn("%", node.value, where)

    def test_no_generators_where_lists_are_asked_for(self):
        for where, node in self.each(ast.Call):
            if isinstance(node.func, ast.Name) and node.func.id in LISTED:
                self.assertFalse([part for part in node.args if isinstance(part, ast.GeneratorExp)], where)

    def test_is_stands_with_none_true_and_false(self):
        for where, node in self.each(ast.Compare):
            for sign, other in zip(node.ops, node.comparators):
                if isinstance(sign, (ast.Is, ast.IsNot)):
                    self.assertTrue(isinstance(other, ast.Constant) and other.value in (None, True, False), where)

    def test_default_values_are_plain(self):
        for where, node in self.each(ast.FunctionDef):
            for default in node.args.defaults + [one for one in node.args.kw_defaults if one is not None]:
                for part in ast.walk(default):
                    self.assertNotIsInstance(part, (ast.Call, ast.List, ast.Dict, ast.Lambda), where)

    def test_caught_errors(self):
        own = {node.name for _, node in self.each(ast.ClassDef)}
        for where, node in self.each(ast.ExceptHandler):
            caught = node.type.elts if isinstance(node.type, ast.Tuple) else [node.type]
            for error in caught:
                self.assertIn(error.id, own | {"KeyError", "ZeroDivisionError", "StopIteration", "ValueError",
                                               "LookupError", "IndexError"}, where)


if __name__ == "__main__":
    unittest.main()
