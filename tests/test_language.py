"""The rules of LANGUAGE.md, as far as a short program can see them."""

import ast
import builtins
import io
import pathlib
import re
import tokenize
import unittest
import warnings

PACKAGE = pathlib.Path(__file__).parent.parent / "variantnest"
SIGNS = re.compile("[ -~\n]*")
PLAIN = re.compile("_?[A-Za-z][A-Za-z0-9_]*|_")
LIBRARY = {
    "heapq": {"heappush", "heappop", "heapify", "heapreplace", "heappushpop"},
    "math": {"gcd", "lcm", "isqrt", "comb", "perm", "factorial"},
    "itertools": {"product", "combinations", "permutations"},
    "__future__": {"annotations"},
}
BUILTINS = set(
    "len range enumerate zip min max sum abs sorted reversed int str bool list tuple dict set isinstance ord repr any"
    " all divmod map iter next Exception ValueError TypeError KeyError IndexError LookupError ZeroDivisionError"
    " ArithmeticError OverflowError RuntimeError NotImplementedError AttributeError StopIteration NotImplemented"
    " super property staticmethod classmethod bytes".split()
)
METHODS = set(
    "append clear copy count endswith extend find get index insert isalnum isalpha isdigit islower isspace isupper"
    " items join keys ljust lower lstrip partition pop remove replace reverse rfind rjust rpartition rsplit rstrip"
    " setdefault split splitlines startswith strip update upper values zfill bit_length add discard sort __init__"
    .split()
)
NATIVE = {word for word in vars(builtins) if not word.startswith("__")}
SPECIAL = {"__init__", "__eq__", "__repr__", "__str__", "__len__", "__class__", "__name__"}
BARRED = set(
    "register mro elements open input law version_info with_traceback add_note attrgetter breakpoint builtins compile"
    " copyright credits delattr dir eval exec exit gc getattr globals hasattr help id importlib license locals"
    " methodcaller os quit setattr type vars sys typing typing_extensions enum Enum IntEnum StrEnum Flag IntFlag"
    " Generic Protocol ABC ABCMeta namedtuple NamedTuple TypedDict TYPE_CHECKING abstractmethod dataclass overload"
    " contextmanager".split()
)
# Rules that allow a part of a kind of statement or expression; the package does without.
UNUSED = (
    ast.Import, ast.Global, ast.AsyncFunctionDef, ast.Await, ast.AsyncFor, ast.AsyncWith, ast.GeneratorExp,
    ast.SetComp, ast.Set, ast.Div, ast.NamedExpr, ast.Match, ast.With, ast.Yield, ast.YieldFrom, ast.Nonlocal,
    ast.Delete, ast.Assert, ast.AnnAssign,
)


def files():
    return sorted(path for path in PACKAGE.rglob("*") if "__pycache__" not in path.parts)


def sources():
    return [(path, path.read_text(encoding="utf-8")) for path in files() if path.suffix == ".py"]


def parsed():
    return [(path.name, ast.parse(text)) for path, text in sources()]


def walked(kind):
    return [(name, item) for name, module in parsed() for item in ast.walk(module) if isinstance(item, kind)]


def bound(module):
    """The names that functions, classes, parameters and assignments of a module bind."""
    for item in ast.walk(module):
        if isinstance(item, (ast.FunctionDef, ast.ClassDef)):
            yield item.name
        elif isinstance(item, ast.arg):
            yield item.arg
        elif isinstance(item, ast.Name) and not isinstance(item.ctx, ast.Load):
            yield item.id
        elif isinstance(item, ast.ExceptHandler) and item.name:
            yield item.name


class Files(unittest.TestCase):

    def test_files(self):
        for path in files():
            if path.is_dir():
                self.assertTrue((path / "__init__.py").is_file(), path)
            else:
                self.assertRegex(path.name, r"\A(__init__|__main__|[a-z][a-z0-9_]*)\.py\Z")
            self.assertNotIn(path.stem, NATIVE)

    def test_signs_and_sizes(self):
        for path, text in sources():
            self.assertTrue(SIGNS.fullmatch(text), path)
            rows = text.splitlines()
            self.assertLessEqual(len(rows), 399, path)
            self.assertLessEqual(max([len(row) for row in rows]), 120, path)
        for name, item in walked(ast.FunctionDef):
            self.assertLessEqual(item.end_lineno - item.lineno + 1, 40, (name, item.name))

    def test_no_warnings(self):
        with warnings.catch_warnings():
            warnings.simplefilter("error")
            for path, text in sources():
                compile(text, str(path), "exec")

    def test_words(self):
        for path, text in sources():
            docs = [item.value for item in ast.walk(ast.parse(text)) if isinstance(item, ast.Expr)]
            docs = {item.lineno for item in docs if isinstance(item, ast.Constant)}
            for token in tokenize.generate_tokens(io.StringIO(text).readline):
                if token.type not in (tokenize.NAME, tokenize.STRING) or token.start[0] in docs:
                    continue
                self.assertFalse(BARRED & set(re.findall("[A-Za-z_]+", token.string)), (path.name, token))
                if token.type == tokenize.STRING:
                    self.assertNotIn("%", token.string)
                    self.assertFalse(re.search(r"\\[^nt'\"\\]", token.string), token)


class Modules(unittest.TestCase):

    def test_statements(self):
        for name, module in parsed():
            self.assertIsNotNone(ast.get_docstring(module), name)
            for item in module.body[1:]:
                self.assertIsInstance(item, (ast.ImportFrom, ast.FunctionDef, ast.ClassDef, ast.Assign), name)
                if isinstance(item, ast.Assign):
                    self.assertEqual(len(item.targets), 1, name)
                    self.assertIsInstance(item.targets[0], ast.Name, name)
            names = [item.name for item in module.body if isinstance(item, (ast.FunctionDef, ast.ClassDef))]
            self.assertEqual(len(names), len(set(names)), name)

    def test_imports(self):
        homes = {f"variantnest.{name[:-3]}": set(bound(module)) for name, module in parsed()}
        for name, item in walked(ast.ImportFrom):
            names = {alias.name for alias in item.names}
            self.assertEqual(item.level, 0, name)
            self.assertTrue(all(alias.asname is None for alias in item.names), name)
            self.assertLessEqual(names, homes.get(item.module) or LIBRARY[item.module], (name, item.module))

    def test_imports_lead_to_no_ring(self):
        needs = {name[:-3]: set() for name, _ in parsed()}
        for name, item in walked(ast.ImportFrom):
            if item.module.startswith("variantnest."):
                needs[name[:-3]].add(item.module.split(".")[1])
        while needs:
            free = [name for name in needs if not needs[name] & set(needs)]
            self.assertTrue(free, needs)
            needs = {name: needs[name] for name in needs if name not in free}


class Names(unittest.TestCase):

    def test_names(self):
        for name, module in parsed():
            imports = [item for item in ast.walk(module) if isinstance(item, ast.ImportFrom)]
            imported = {alias.name for item in imports for alias in item.names}
            for word in bound(module):
                self.assertTrue(PLAIN.fullmatch(word) or word in SPECIAL, (name, word))
                self.assertNotIn(word, NATIVE, name)
                self.assertNotIn(word, imported, name)

    def test_builtins(self):
        for name, item in walked(ast.Name):
            if item.id in NATIVE:
                self.assertIn(item.id, BUILTINS, name)

    def test_methods(self):
        own = {item.name for _, item in walked(ast.FunctionDef)}
        for name, item in walked(ast.Call):
            if isinstance(item.func, ast.Attribute):
                self.assertIn(item.func.attr, METHODS | own, name)

    def test_double_underscores(self):
        for name, item in walked((ast.FunctionDef, ast.Attribute)):
            word = item.name if isinstance(item, ast.FunctionDef) else item.attr
            self.assertTrue(PLAIN.fullmatch(word) or word in SPECIAL, (name, word))


class Statements(unittest.TestCase):

    def test_kinds(self):
        for name, item in walked(UNUSED):
            self.fail((name, getattr(item, "lineno", None), item))

    def test_lambdas(self):
        lines = [(name, item.lineno) for name, item in walked(ast.Lambda)]
        self.assertEqual(len(lines), len(set(lines)))
        called = [part for _, item in walked(ast.Call) for part in [*item.args, *[row.value for row in item.keywords]]]
        for name, item in walked(ast.Lambda):
            self.assertIn((item.lineno, item.col_offset), [(part.lineno, part.col_offset) for part in called], name)

    def test_stars_in_calls(self):
        for name, item in walked(ast.Call):
            for part in item.args:
                if isinstance(part, ast.Starred):
                    self.assertIsInstance(part.value, ast.Name, (name, item.lineno))
            self.assertTrue(all(row.arg for row in item.keywords), (name, item.lineno))

    def test_sets_are_sorted_at_once(self):
        allowed = [
            part for _, item in walked(ast.Call) if isinstance(item.func, ast.Name) and item.func.id == "sorted"
            and not item.keywords for part in item.args
        ]
        for name, item in walked(ast.Call):
            if isinstance(item.func, ast.Name) and item.func.id in ("set", "frozenset"):
                self.assertIn((item.lineno, item.col_offset), [(part.lineno, part.col_offset) for part in allowed], name)

    def test_any_and_all_take_lists(self):
        for name, item in walked(ast.Call):
            if isinstance(item.func, ast.Name) and item.func.id in ("any", "all", "sum"):
                self.assertIsInstance(item.args[0], (ast.ListComp, ast.Call), (name, item.lineno))

    def test_views_are_iterated_at_once(self):
        places = [item.iter for _, item in walked((ast.For, ast.comprehension))]
        for _, item in walked(ast.Call):
            if isinstance(item.func, ast.Name) and item.func.id in ("list", "tuple", "sorted", "sum", "enumerate"):
                places.extend(item.args[:1])
        places = {(part.lineno, part.col_offset) for part in places}
        for name, item in walked(ast.Call):
            word = item.func.id if isinstance(item.func, ast.Name) else getattr(item.func, "attr", "")
            if word in ("zip", "enumerate", "reversed", "range", "keys", "values", "items"):
                self.assertIn((item.lineno, item.col_offset), places, (name, item.lineno))

    def test_what_a_loop_goes_over_stays(self):
        for name, loop in walked(ast.For):
            over = ast.unparse(loop.iter)
            for item in [part for row in loop.body for part in ast.walk(row)]:
                if isinstance(item, ast.Call) and isinstance(item.func, ast.Attribute):
                    if item.func.attr in ("append", "extend", "pop", "update", "clear", "insert", "remove", "setdefault"):
                        self.assertNotEqual(ast.unparse(item.func.value), over, (name, loop.lineno))
                if isinstance(item, ast.Subscript) and not isinstance(item.ctx, ast.Load):
                    self.assertNotEqual(ast.unparse(item.value), over, (name, loop.lineno))

    def test_attributes_and_methods_have_different_names(self):
        methods, attributes = set(), set()
        for _, item in walked(ast.ClassDef):
            methods |= {part.name for part in item.body if isinstance(part, ast.FunctionDef)}
        for _, item in walked(ast.Attribute):
            if isinstance(item.ctx, ast.Store):
                attributes.add(item.attr)
        self.assertEqual(methods & attributes, set())
        self.assertFalse(attributes & (METHODS - set("count index title find get join lower upper split strip copy add".split())))

    def test_no_list_is_sorted_in_place(self):
        for name, item in walked(ast.Attribute):
            self.assertNotEqual(item.attr, "sort", name)

    def test_constants(self):
        for name, item in walked(ast.Constant):
            self.assertNotIsInstance(item.value, (float, complex), name)

    def test_powers(self):
        for name, item in walked(ast.BinOp):
            if isinstance(item.op, ast.Pow):
                self.assertIsInstance(item.right, ast.Constant, name)

    def test_is(self):
        for name, item in walked(ast.Compare):
            if isinstance(item.ops[0], (ast.Is, ast.IsNot)):
                self.assertIsInstance(item.comparators[0], (ast.Constant, ast.Name), (name, item.lineno))

    def test_errors(self):
        for name, item in walked(ast.Raise):
            if item.exc is not None:
                self.assertIsInstance(item.exc, ast.Call, name)
                self.assertIsInstance(item.exc.func, ast.Name, name)
        for name, item in walked(ast.ExceptHandler):
            self.assertIsInstance(item.type, (ast.Name, ast.Tuple), name)

    def test_no_decorators_over_functions_and_no_state(self):
        for name, module in parsed():
            for item in module.body:
                if isinstance(item, (ast.FunctionDef, ast.ClassDef)):
                    self.assertEqual(item.decorator_list, [], name)
