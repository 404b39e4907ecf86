"""The rules of the language that a look at the code can tell; the document with all of them tells more."""

import ast
import builtins
import io
import tokenize
import unittest
from pathlib import Path

PACKAGE = Path(__file__).resolve().parent.parent / "willinglift"
FILES = sorted(PACKAGE.rglob("*.py"))
LIBRARY = {"heapq": {"heappush", "heappop", "heapify", "heapreplace", "heappushpop"},
           "math": {"gcd", "lcm", "isqrt", "comb", "perm", "factorial"},
           "itertools": {"product", "combinations", "permutations", "chain", "accumulate", "pairwise", "islice",
                         "zip_longest"},
           "collections": {"defaultdict"}}
BUILTINS = set("""len range enumerate zip min max sum abs sorted reversed int str bool bytes list tuple dict set
    isinstance ord repr any all divmod pow map iter next ValueError""".split())
METHODS = set("""append clear copy count endswith extend find get index insert isalnum isalpha isdigit islower isspace
    isupper items join keys ljust lower lstrip partition pop remove replace reverse rfind rjust rpartition rsplit rstrip
    setdefault split splitlines startswith strip update upper values zfill bit_length add discard isascii""".split())
BARRED_WORDS = set("""type typing typing_extensions enum Enum IntEnum StrEnum Flag IntFlag Generic Protocol ABC ABCMeta
    namedtuple NamedTuple TypedDict TYPE_CHECKING abstractmethod dataclass overload contextmanager""".split())
BARRED = BARRED_WORDS | set("register mro elements open input law version_info with_traceback add_note".split())
NO_NAMES = set("""attrgetter breakpoint builtins compile copyright credits delattr dir eval exec exit gc globals help id
    importlib license locals methodcaller os quit super vars sys""".split())
NO_ATTRIBUTES = set("""items keys values pop update append clear extend insert remove reverse setdefault sort args
    encode decode hex fromhex format format_map""".split())
EATERS = {"sum", "min", "max", "any", "all", "sorted"}


def trees():
    for path in FILES:
        yield path, ast.parse(path.read_text())


def nodes(kind):
    for path, tree in trees():
        for node in ast.walk(tree):
            if isinstance(node, kind):
                yield f"{path.name}:{getattr(node, 'lineno', 0)}", node


def bound_names(tree):
    """All names that are given a meaning in a file, but for those of methods and attributes."""
    methods = {id(part) for node in ast.walk(tree) if isinstance(node, ast.ClassDef) for part in node.body}
    for node in ast.walk(tree):
        if isinstance(node, ast.Name) and not isinstance(node.ctx, ast.Load):
            yield node.id
        elif isinstance(node, ast.arg):
            yield node.arg
        elif isinstance(node, (ast.FunctionDef, ast.ClassDef)) and id(node) not in methods:
            yield node.name
        elif isinstance(node, ast.alias):
            yield node.asname or node.name


def own_names(kind):
    return {node.name for _, node in nodes(kind)}


class Files(unittest.TestCase):
    def test_folder(self):
        self.assertTrue((PACKAGE / "__init__.py").exists())
        for path in PACKAGE.rglob("*"):
            if "__pycache__" not in path.parts:
                self.assertEqual(path.suffix, ".py", path)
                self.assertRegex(path.name, r"^[a-z0-9_]+\.py$")
                self.assertFalse(path.name.startswith("test"))

    def test_sizes_and_characters(self):
        for path in FILES:
            text = path.read_bytes().decode("ascii")
            self.assertTrue(all(" " <= sign <= "~" or sign == "\n" for sign in text), path)
            lines = text.split("\n")
            self.assertLessEqual(len(lines), 400, path)
            self.assertLessEqual(max(map(len, lines)), 120, path)
        for place, node in nodes(ast.FunctionDef):
            self.assertLessEqual(node.end_lineno - node.lineno + 1, 40, place)

    def test_imports(self):
        needs = {path.stem: set() for path in FILES}
        for path, tree in trees():
            for at, node in enumerate(tree.body):
                self.assertNotIsInstance(node, ast.Import, path)
                if isinstance(node, ast.ImportFrom):
                    self.assertTrue(all(isinstance(ahead, (ast.ImportFrom, ast.Expr)) for ahead in tree.body[:at]))
                    self.assertEqual(node.level, 0)
                    if node.module in LIBRARY:
                        self.assertLessEqual({alias.name for alias in node.names}, LIBRARY[node.module])
                        continue
                    folder, name = node.module.split(".")
                    self.assertEqual(folder, "willinglift")
                    needs[path.stem].add(name)
                    defined = {part.name for part in ast.parse((PACKAGE / f"{name}.py").read_text()).body
                               if isinstance(part, (ast.FunctionDef, ast.ClassDef))}
                    values = {part.targets[0].id for part in ast.parse((PACKAGE / f"{name}.py").read_text()).body
                              if isinstance(part, ast.Assign)}
                    self.assertLessEqual({alias.name for alias in node.names}, defined | values, path)
                    self.assertTrue(all(alias.asname is None for alias in node.names))
        while needs:
            free = [name for name in needs if not needs[name] & set(needs)]
            self.assertTrue(free, f"in a circle: {sorted(needs)}")
            for name in free:
                del needs[name]

    def test_imports_are_used(self):
        for path, tree in trees():
            used = {node.id for node in ast.walk(tree) if isinstance(node, ast.Name)}
            for node in ast.walk(tree):
                if isinstance(node, ast.ImportFrom):
                    self.assertLessEqual({alias.name for alias in node.names}, used, path)

    def test_module_level(self):
        for path, tree in trees():
            for at, node in enumerate(tree.body):
                if isinstance(node, ast.Expr):
                    self.assertEqual(at, 0, path)
                    self.assertIsInstance(node.value.value, str)
                else:
                    self.assertIsInstance(node, (ast.ImportFrom, ast.FunctionDef, ast.ClassDef, ast.Assign), path)
            names = [node.name for node in tree.body if isinstance(node, (ast.FunctionDef, ast.ClassDef))]
            names += [alias.name for node in tree.body if isinstance(node, ast.ImportFrom) for alias in node.names]
            names += [node.targets[0].id for node in tree.body if isinstance(node, ast.Assign)]
            self.assertEqual(len(names), len(set(names)), path)


class Names(unittest.TestCase):
    def test_names(self):
        for path, tree in trees():
            given = {part.name for part in tree.body if isinstance(part, ast.ClassDef)}
            given |= {alias.name for part in tree.body if isinstance(part, ast.ImportFrom) for alias in part.names}
            names = list(bound_names(tree))
            for name in names:
                self.assertFalse(name.startswith("__"), path)
                self.assertNotIn(name, NO_NAMES | BARRED, path)
                self.assertFalse(hasattr(builtins, name), f"{path.name}: {name}")
                self.assertRegex(name, r"^(_|_?[A-Za-z][A-Za-z0-9_]*)$")
            for name in given:
                self.assertEqual(names.count(name), 1, f"{path.name}: {name}")

    def test_underscore_is_never_read(self):
        for place, node in nodes(ast.Name):
            if node.id == "_":
                self.assertNotIsInstance(node.ctx, ast.Load, place)

    def test_barred_words(self):
        for path in FILES:
            tree = ast.parse(path.read_text())
            docs = {node.body[0].value.lineno for node in ast.walk(tree)
                    if isinstance(node, (ast.Module, ast.ClassDef, ast.FunctionDef)) and ast.get_docstring(node)}
            for token in tokenize.generate_tokens(io.StringIO(path.read_text()).readline):
                if token.type == tokenize.NAME:
                    self.assertNotIn(token.string, BARRED, path)
                if token.type == tokenize.STRING:
                    self.assertNotIn("%", token.string, path)
                    if token.start[0] not in docs:
                        self.assertFalse(BARRED_WORDS & set(token.string.strip("\"'").split()), path)

    def test_methods_and_attributes(self):
        attributes = set()
        for place, node in nodes(ast.Attribute):
            if isinstance(node.ctx, ast.Store):
                attributes.add(node.attr)
                self.assertNotIn(node.attr, NO_ATTRIBUTES, place)
                self.assertFalse(hasattr(str, node.attr) and node.attr not in
                                 {"count", "index", "title", "find", "join", "lower", "upper", "split", "strip"}, place)
        for place, node in nodes(ast.ClassDef):
            methods = [part.name for part in node.body if isinstance(part, ast.FunctionDef)]
            self.assertEqual(len(methods), len(set(methods)), place)
            stored = {part.attr for part in ast.walk(node)
                      if isinstance(part, ast.Attribute) and isinstance(part.ctx, ast.Store)}
            self.assertFalse(stored & set(methods), place)
            self.assertTrue(all(name in {"__init__", "__eq__"} or not name.startswith("__") for name in methods))
        methods = own_names(ast.FunctionDef)
        for place, node in nodes(ast.Attribute):
            if isinstance(node.ctx, ast.Load):
                self.assertIn(node.attr, attributes | methods | METHODS, place)


class Expressions(unittest.TestCase):
    def test_barred_statements(self):
        for kind in (ast.Global, ast.AsyncFunctionDef, ast.Await, ast.GeneratorExp, ast.AnnAssign, ast.Yield,
                     ast.YieldFrom, ast.Div, ast.MatMult, ast.Set, ast.SetComp):
            self.assertEqual([place for place, _ in nodes(kind)], [], kind)

    def test_constants(self):
        for place, node in nodes(ast.Constant):
            self.assertNotIsInstance(node.value, (float, complex), place)

    def test_functions(self):
        for place, node in nodes(ast.FunctionDef):
            self.assertEqual(node.decorator_list, [], place)
            self.assertIsNone(node.returns, place)
            self.assertTrue(node.name.startswith("__") or ast.get_docstring(node), place)
        for place, node in nodes(ast.ClassDef):
            self.assertEqual((node.decorator_list, node.keywords), ([], []), place)
            self.assertTrue(ast.get_docstring(node), place)

    def test_is(self):
        for place, node in nodes(ast.Compare):
            for sign, right in zip(node.ops, node.comparators):
                if isinstance(sign, (ast.Is, ast.IsNot)):
                    self.assertIsInstance(right, ast.Constant, place)

    def test_calls(self):
        own = own_names(ast.FunctionDef) | own_names(ast.ClassDef)
        for path, tree in trees():
            for function in [node for node in ast.walk(tree) if isinstance(node, ast.FunctionDef)]:
                library = {name for names in LIBRARY.values() for name in names}
                known = own | BUILTINS | library | {arg.arg for arg in function.args.args}
                # A function of a table is given a name first.
                known |= {node.targets[0].id for node in ast.walk(function) if isinstance(node, ast.Assign)
                          and isinstance(node.value, ast.Subscript) and isinstance(node.targets[0], ast.Name)}
                for node in ast.walk(function):
                    if isinstance(node, ast.Call) and isinstance(node.func, ast.Name):
                        self.assertIn(node.func.id, known, path)
                        # Keywords stand where the builtin has them, and reverse is told plainly.
                        for keyword in node.keywords:
                            self.assertIn(keyword.arg, {"key", "reverse", "default"}, path)
                            if keyword.arg == "reverse":
                                self.assertIsInstance(keyword.value, ast.Constant, path)

    def test_powers(self):
        for place, node in nodes(ast.BinOp):
            if isinstance(node.op, ast.Pow):
                self.assertIsInstance(node.right, ast.Constant, place)
                self.assertLessEqual(node.right.value, 64, place)

    def test_raised_on_the_spot(self):
        errors = own_names(ast.ClassDef)
        for place, node in nodes(ast.Raise):
            if node.exc is not None:
                self.assertIsInstance(node.exc, ast.Call, place)
                self.assertIn(node.exc.func.id, errors, place)

    def test_tries(self):
        """Nothing is caught, and what goes on behind an error is simple."""
        for place, node in nodes(ast.Try):
            self.assertEqual((node.handlers, node.orelse), ([], []), place)
            for row in node.finalbody:
                self.assertIsInstance(row, ast.Assign, place)
                for part in (*row.targets, row.value):
                    self.assertIsInstance(part, (ast.Name, ast.Attribute), place)

    def test_tables_are_read(self):
        """What a file's own tables give is a function that is given a name, or a plain value."""
        for path, tree in trees():
            tables = {node.targets[0].id for node in tree.body
                      if isinstance(node, ast.Assign) and isinstance(node.value, (ast.Dict, ast.List))}
            read = {id(node.value) for node in ast.walk(tree) if isinstance(node, ast.Subscript)
                    and isinstance(node.ctx, ast.Load)}
            read |= {id(node.comparators[-1]) for node in ast.walk(tree) if isinstance(node, ast.Compare)}
            for node in ast.walk(tree):
                if isinstance(node, ast.Name) and node.id in tables and isinstance(node.ctx, ast.Load):
                    self.assertIn(id(node), read, f"{path.name}:{node.lineno}")
                if isinstance(node, ast.Call):
                    self.assertIsInstance(node.func, (ast.Name, ast.Attribute), f"{path.name}:{node.lineno}")

    def test_names_are_methods_or_attributes(self):
        methods, attributes = set(), set()
        for _, node in nodes(ast.ClassDef):
            methods |= {part.name for part in node.body if isinstance(part, ast.FunctionDef)}
            attributes |= {part.attr for part in ast.walk(node)
                           if isinstance(part, ast.Attribute) and isinstance(part.ctx, ast.Store)}
        self.assertEqual(methods & attributes, set())

    def test_views_are_iterated_at_once(self):
        for path, tree in trees():
            right = set()
            for node in ast.walk(tree):
                if isinstance(node, (ast.For, ast.comprehension)):
                    right.add(id(node.iter))
                if isinstance(node, ast.Call) and isinstance(node.func, ast.Name) and node.args:
                    if node.func.id in {"list", "tuple", "dict", "sorted", "sum", "any", "all", "enumerate", "zip",
                                        "min", "max"} or (node.func.id, "range") == ("reversed", ast.unparse(
                                            node.args[0]).split("(")[0]):
                        right.add(id(node.args[0]))
            for node in ast.walk(tree):
                if isinstance(node, ast.Call):
                    name = node.func.id if isinstance(node.func, ast.Name) else node.func.attr
                    if name in {"zip", "enumerate", "reversed", "range", "items", "keys", "values"}:
                        self.assertIn(id(node), right, f"{path.name}:{node.lineno}")


if __name__ == "__main__":
    unittest.main()
