"""The package keeps to its subset of Python, as far as this can be seen in the code."""

import ast
import builtins
import re
import unittest
from pathlib import Path

PACKAGE = Path(__file__).resolve().parent.parent / "surelyends"
FILES = sorted(PACKAGE.rglob("*.py"))

LIBRARY = {
    "heapq": {"heappush", "heappop", "heapify", "heapreplace", "heappushpop"},
    "math": {"gcd", "lcm", "isqrt", "comb", "perm", "factorial"},
    "itertools": {"product", "combinations", "permutations"},
}
BUILTINS = set("""len range enumerate zip min max sum abs sorted reversed int str bool bytes list tuple dict set frozenset
    isinstance ord repr any all divmod Exception ValueError TypeError KeyError IndexError LookupError ZeroDivisionError
    ArithmeticError OverflowError RuntimeError NotImplementedError AttributeError StopIteration NotImplemented iter next
    map super property staticmethod classmethod""".split())
METHODS = set("""append clear copy count endswith extend find get index insert isalnum isalpha isdigit islower isspace
    isupper items join keys ljust lower lstrip partition pop remove replace reverse rfind rjust rpartition rsplit rstrip
    setdefault split splitlines startswith strip update upper values zfill bit_length add discard""".split())
SPECIAL = set("""__init__ __eq__ __repr__ __str__ __len__ __enter__ __exit__ __call__ __iter__ __lt__ __le__ __gt__
    __ge__ __ne__ __add__ __sub__ __mul__ __floordiv__ __mod__ __pow__ __and__ __or__ __xor__ __lshift__ __rshift__
    __radd__ __rsub__ __rmul__ __ror__ __rand__ __neg__ __pos__ __invert__ __abs__ __bool__ __contains__ __getitem__
    __setitem__""".split())
BARRED_NAMES = set("""register mro elements open input law version_info with_traceback add_note attrgetter breakpoint
    builtins compile copyright credits delattr dir eval exec exit gc getattr globals hasattr help id importlib license
    locals methodcaller os quit setattr type vars sys""".split())
BARRED_WORDS = re.compile(
    r"\b(typing|typing_extensions|enum|Enum|IntEnum|StrEnum|Flag|IntFlag|Generic|Protocol|ABC|ABCMeta|namedtuple"
    r"|NamedTuple|TypedDict|TYPE_CHECKING|abstractmethod|Meta|_wall|_WallAttr)\b"
    r"|dataclass|overload|contextmanager|metaclass=|\(type\)")
STATEMENTS = (
    ast.FunctionDef, ast.ClassDef, ast.Return, ast.Assign, ast.AugAssign, ast.For, ast.While, ast.If, ast.With,
    ast.Raise, ast.Try, ast.Expr, ast.Pass, ast.Break, ast.Continue, ast.ImportFrom, ast.Delete, ast.Assert, ast.Nonlocal,
)


def module_of(path):
    parts = path.relative_to(PACKAGE.parent).with_suffix("").parts
    return ".".join(parts[:-1] if parts[-1] == "__init__" else parts)


def is_plain(node):
    if isinstance(node, ast.UnaryOp) and isinstance(node.op, ast.USub):
        return isinstance(node.operand, ast.Constant)
    if isinstance(node, (ast.Tuple, ast.List)):
        return all(is_plain(part) for part in node.elts)
    if isinstance(node, ast.Dict):
        return all(is_plain(part) for part in node.keys + node.values)
    return isinstance(node, ast.Constant) or isinstance(node, ast.Name)


class LanguageTest(unittest.TestCase):
    def setUp(self):
        self.trees = {path: ast.parse(path.read_text(), str(path)) for path in FILES}
        self.modules = {module_of(path): tree for path, tree in self.trees.items()}
        self.classes = {node.name: node for tree in self.trees.values() for node in tree.body
                        if isinstance(node, ast.ClassDef)}
        self.own_methods = {part.name for node in self.classes.values() for part in node.body
                            if isinstance(part, ast.FunctionDef)}

    def nodes(self, *kinds):
        for path, tree in self.trees.items():
            for node in ast.walk(tree):
                if isinstance(node, kinds):
                    yield f"{path.name}:{getattr(node, 'lineno', 0)}", node

    def test_files(self):
        self.assertGreater(len(FILES), 10)
        for path in PACKAGE.rglob("*"):
            if "__pycache__" not in path.parts:
                self.assertTrue(path.is_dir() or path.suffix == ".py", path)
                self.assertRegex(path.stem, r"^[a-z_][a-z0-9_]*$")
                self.assertFalse(path.suffix == ".py" and path.with_suffix("").is_dir(), path)
            if path.is_dir() and path.name != "__pycache__":
                self.assertTrue((path / "__init__.py").exists(), path)

    def test_characters_and_sizes(self):
        for path in FILES:
            text = path.read_text()
            self.assertRegex(text, r"\A[ -~\n]*\Z", path)
            lines = text.split("\n")
            self.assertLess(len(lines), 400, path)
            self.assertLessEqual(max(map(len, lines)), 120, path)
            self.assertIsNone(BARRED_WORDS.search(text), path)
        for at, node in self.nodes(ast.FunctionDef):
            self.assertLessEqual(node.end_lineno - node.lineno + 1, 40, at)

    def test_imports(self):
        graph = {}
        for path, tree in self.trees.items():
            graph[module_of(path)] = set()
            for node in tree.body:
                if not isinstance(node, ast.ImportFrom):
                    continue
                self.assertEqual((node.level, [name.asname for name in node.names]), (0, [None] * len(node.names)))
                names = {name.name for name in node.names}
                if node.module in LIBRARY:
                    self.assertLessEqual(names, LIBRARY[node.module])
                    continue
                self.assertIn(node.module, self.modules, path)
                graph[module_of(path)].add(node.module)
                self.assertLessEqual(names, self.bound_in(self.modules[node.module]), path)
        done = set()
        while len(done) < len(graph):
            free = {module for module in graph if module not in done and graph[module] <= done}
            self.assertTrue(free, "modules import from one another")
            done |= free

    def bound_in(self, tree):
        bound = [node.name for node in tree.body if isinstance(node, (ast.FunctionDef, ast.ClassDef))]
        bound += [node.targets[0].id for node in tree.body if isinstance(node, ast.Assign)]
        self.assertEqual(len(bound), len(set(bound)))
        return set(bound)

    def test_module_level(self):
        for path, tree in self.trees.items():
            for at, node in enumerate(tree.body):
                if isinstance(node, ast.Assign):
                    self.assertTrue(len(node.targets) == 1 and isinstance(node.targets[0], ast.Name), path)
                    self.assertTrue(is_plain(node.value), path)
                elif isinstance(node, ast.Expr):
                    self.assertTrue(at == 0 and isinstance(node.value, ast.Constant), path)
                else:
                    self.assertIsInstance(node, (ast.ImportFrom, ast.FunctionDef, ast.ClassDef), path)

    def test_statements_and_expressions(self):
        barred = (ast.GeneratorExp, ast.Div, ast.MatMult, ast.Await, ast.AnnAssign, ast.Match, ast.AsyncFunctionDef)
        for at, node in self.nodes(ast.AST):
            if isinstance(node, ast.stmt):
                self.assertIsInstance(node, STATEMENTS, at)
            self.assertNotIsInstance(node, barred, at)
            if isinstance(node, ast.Constant):
                self.assertIsInstance(node.value, (int, str, type(None)), at)
                if isinstance(node.value, str):
                    self.assertNotIn("%", node.value, at)
                    self.assertIsNone(re.search(r"(^|\W)__|\._+$", node.value), at)
            if isinstance(node, ast.BinOp) and isinstance(node.op, ast.Pow):
                self.assertIsInstance(node.right, ast.Constant, at)
            if isinstance(node, (ast.Is, ast.IsNot)):
                continue
            if isinstance(node, ast.Compare):
                for sign, other in zip(node.ops, node.comparators):
                    if isinstance(sign, (ast.Is, ast.IsNot)):
                        self.assertIsInstance(other, ast.Constant, at)
            if isinstance(node, ast.Attribute):
                self.assertFalse(node.attr.startswith("__") and node.attr != "__init__", at)

    def test_sets_stand_where_they_may(self):
        allowed = set()
        for _, node in self.nodes(ast.Call):
            if isinstance(node.func, ast.Name) and node.func.id in ("sorted", "len") and not node.keywords:
                allowed.update(id(part) for part in node.args)
        for at, node in self.nodes(ast.Set, ast.SetComp, ast.Call):
            if isinstance(node, ast.Call) and getattr(node.func, "id", None) != "set":
                continue
            self.assertIn(id(node), allowed, at)

    def test_functions_and_classes(self):
        for at, node in self.nodes(ast.FunctionDef):
            names = [ast.unparse(decorator) for decorator in node.decorator_list]
            self.assertTrue(names in ([], ["property"], ["staticmethod"], ["classmethod"]), at)
            self.assertTrue(all(is_plain(value) for value in node.args.defaults if value), at)
            self.assertTrue(all(is_plain(value) for value in node.args.kw_defaults if value), at)
            self.assertIsNone(node.returns, at)
            if node.name.startswith("__"):
                self.assertIn(node.name, SPECIAL, at)
        for at, node in self.nodes(ast.ClassDef):
            self.assertEqual(node.decorator_list, [], at)
            self.assertLessEqual(len(node.bases), 1, at)
            names = {part.name for part in node.body if isinstance(part, ast.FunctionDef)}
            self.assertEqual(len(names), sum(isinstance(part, ast.FunctionDef) for part in node.body), at)
            self.assertTrue("__getitem__" not in names or "__iter__" in names, at)
        for at, node in self.nodes(ast.ExceptHandler):
            self.assertIsNotNone(node.type, at)
            self.assertIn(ast.unparse(node.type), set(self.classes) | {"KeyError", "ZeroDivisionError"}, at)

    def test_names(self):
        # The examples are run as in a dialogue, which keeps the last result under the name _ among the builtins.
        known = set(dir(builtins)) - {"_"} | BARRED_NAMES
        for path, tree in self.trees.items():
            taken = {name.name for node in tree.body if isinstance(node, ast.ImportFrom) for name in node.names}
            taken |= {node.name for node in tree.body if isinstance(node, ast.ClassDef)}
            methods = {id(part) for node in tree.body if isinstance(node, ast.ClassDef) for part in node.body}
            for node in ast.walk(tree):
                bound = []
                if isinstance(node, ast.Name) and isinstance(node.ctx, ast.Store):
                    bound.append(node.id)
                if isinstance(node, ast.arg):
                    bound.append(node.arg)
                if isinstance(node, (ast.FunctionDef, ast.ClassDef)) and id(node) not in methods:
                    bound.append(node.name)
                    taken.discard(node.name)
                for name in bound:
                    self.assertRegex(name, r"^_?[A-Za-z][A-Za-z0-9_]*$|^_$", path)
                    self.assertNotIn(name, known, path)
                    self.assertNotIn(name, taken - {getattr(node, "name", None)}, path)
                if isinstance(node, ast.Name) and isinstance(node.ctx, ast.Load):
                    self.assertNotEqual(node.id, "_", path)
                    if node.id in known and hasattr(builtins, node.id):
                        self.assertIn(node.id, BUILTINS, path)

    def test_calls(self):
        keywords = {"sorted": {"key", "reverse"}, "min": {"key", "default"}, "max": {"key", "default"},
                    "sum": {"start"}, "enumerate": {"start"}, "zip": {"strict"}}
        for at, node in self.nodes(ast.Call):
            if isinstance(node.func, ast.Name) and node.func.id in BUILTINS:
                found = {keyword.arg for keyword in node.keywords}
                self.assertLessEqual(found, keywords.get(node.func.id, set()), at)
            if isinstance(node.func, ast.Attribute) and node.func.attr not in self.own_methods:
                self.assertIn(node.func.attr, METHODS, at)
                self.assertEqual(node.keywords, [], at)

    def test_methods_attributes_and_properties_have_names_of_their_own(self):
        attributes = {node.attr for _, node in self.nodes(ast.Attribute) if isinstance(node.ctx, ast.Store)}
        read = {node.attr for _, node in self.nodes(ast.Attribute) if isinstance(node.ctx, ast.Load)}
        self.assertEqual(attributes & self.own_methods, set())
        self.assertEqual(read - attributes - self.own_methods - METHODS, set())
        properties = {node.name for _, node in self.nodes(ast.FunctionDef)
                      if [ast.unparse(one) for one in node.decorator_list] == ["property"]}
        self.assertEqual(properties & METHODS, set())

    def test_views_are_iterated_at_once(self):
        views = ("zip", "enumerate", "reversed", "range")
        allowed = set()
        for _, node in self.nodes(ast.For, ast.comprehension):
            allowed.add(id(node.iter))
        for _, node in self.nodes(ast.Call):
            if isinstance(node.func, ast.Name) and node.func.id in (
                    "list", "tuple", "dict", "sorted", "sum", "any", "all", "enumerate", "zip", "min", "max"):
                allowed.update(id(part) for part in node.args[:1])
        for at, node in self.nodes(ast.Call):
            name = getattr(node.func, "id", None) or getattr(node.func, "attr", None)
            if name in views or (isinstance(node.func, ast.Attribute) and name in ("items", "keys", "values")):
                self.assertIn(id(node), allowed, at)

    def test_what_operators_run_changes_nothing(self):
        """Follows all calls by their names from operators, texts, lengths and properties."""
        functions = {}
        starts = []
        for _, node in self.nodes(ast.FunctionDef):
            functions.setdefault(node.name, []).append(node)
            is_property = any(ast.unparse(one) == "property" for one in node.decorator_list)
            is_operator = node.name.startswith("__") and node.name not in (
                "__init__", "__enter__", "__exit__", "__iter__", "__call__", "__setitem__")
            if is_property or is_operator:
                starts.append(node)
        seen = []
        while starts:
            node = starts.pop()
            if node in seen:
                continue
            seen.append(node)
            self.check_changes_nothing(node)
            for call in ast.walk(node):
                if isinstance(call, ast.Call):
                    name = getattr(call.func, "id", None) or getattr(call.func, "attr", None)
                    if name in self.classes:
                        starts.extend(part for part in self.classes[name].body
                                      if getattr(part, "name", None) == "__init__")
                    elif name not in METHODS:
                        starts.extend(functions.get(name, []))
        self.assertGreater(len(seen), 40)

    def check_changes_nothing(self, function):
        own = {node.targets[0].id for node in ast.walk(function)
               if isinstance(node, ast.Assign) and isinstance(node.targets[0], ast.Name)
               and isinstance(node.value, (ast.List, ast.ListComp))}
        for node in ast.walk(function):
            at = f"{function.name}:{getattr(node, 'lineno', 0)}"
            self.assertNotIsInstance(node, (ast.Delete, ast.Nonlocal), at)
            if isinstance(node, (ast.Attribute, ast.Subscript)) and isinstance(node.ctx, ast.Store):
                self.assertTrue(function.name == "__init__" and ast.unparse(node.value) == "self", at)
            if isinstance(node, ast.AugAssign):
                self.assertIsInstance(node.op, (ast.Add, ast.Sub, ast.FloorDiv), at)
                self.assertIsInstance(node.value, ast.Constant, at)
            if isinstance(node, ast.Call) and isinstance(node.func, ast.Attribute):
                if node.func.attr in ("append", "extend", "clear", "insert", "pop", "remove", "reverse", "setdefault",
                                      "update", "add", "discard"):
                    self.assertIn(ast.unparse(node.func.value), own, at)


if __name__ == "__main__":
    unittest.main()
