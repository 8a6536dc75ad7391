"""Holds each file of the package against the rules of LANGUAGE.md that a short test can see."""

import ast
import builtins
import pathlib
import re
import unittest

PACKAGE = pathlib.Path(__file__).resolve().parent.parent / "fourhinges"

LIBRARY = {
    "heapq": {"heappush", "heappop", "heapify", "heapreplace", "heappushpop"},
    "math": {"gcd", "lcm", "isqrt", "comb", "perm", "factorial"},
}
BUILTINS = set(
    "len range enumerate zip min max sum abs sorted reversed int str bool bytes list tuple dict set frozenset "
    "isinstance ord repr any all divmod iter next map property classmethod staticmethod super Exception ValueError "
    "TypeError KeyError IndexError LookupError ZeroDivisionError ArithmeticError OverflowError RuntimeError "
    "NotImplementedError AttributeError NotImplemented".split())
SPECIAL = set(
    "__init__ __eq__ __repr__ __str__ __len__ __enter__ __exit__ __call__ __iter__ __lt__ __le__ __gt__ __ge__ "
    "__ne__ __add__ __sub__ __mul__ __floordiv__ __mod__ __pow__ __and__ __or__ __xor__ __lshift__ __rshift__ "
    "__radd__ __rsub__ __rmul__ __iadd__ __isub__ __imul__ __neg__ __pos__ __invert__ __abs__ __bool__ "
    "__contains__ __getitem__ __setitem__".split())
BARRED_WORDS = re.compile(
    r"\b(typing|typing_extensions|enum|Enum|IntEnum|StrEnum|Flag|IntFlag|Generic|Protocol|ABC|ABCMeta|namedtuple|"
    r"NamedTuple|TypedDict|TYPE_CHECKING|abstractmethod|type|_wall|_WallAttr)\b|dataclass|overload|contextmanager|"
    r"Meta|metaclass=")
BARRED_NAMES = set("register mro elements open input law version_info with_traceback add_note".split())
BARRED_NODES = (
    ast.Global, ast.AsyncFunctionDef, ast.AsyncFor, ast.AsyncWith, ast.Await, ast.Import, ast.Div, ast.NamedExpr)
WALKERS = ("enumerate", "zip", "reversed", "range")
CHANGERS = ("append", "clear", "extend", "insert", "pop", "remove", "reverse", "setdefault", "update", "sort", "add",
            "discard")
LISTS_ONLY = ("any", "all", "min", "max", "sum", "sorted")


def files():
    return sorted(PACKAGE.glob("*.py"))


def defined_names(tree):
    names = set()
    for item in tree.body:
        if isinstance(item, (ast.FunctionDef, ast.ClassDef)):
            names.add(item.name)
        elif isinstance(item, ast.Assign):
            names.add(item.targets[0].id)
    return names


def functions_of(tree):
    return [node for node in ast.walk(tree) if isinstance(node, ast.FunctionDef)]


def is_plain(node):
    return isinstance(node, ast.Constant) and (node.value is None or isinstance(node.value, bool))


def names_in(node):
    """The names and attributes that an expression may be: itself, what it is taken from, each choice."""
    if isinstance(node, ast.Name):
        return {node.id}
    if isinstance(node, ast.Attribute):
        return {node.attr}
    if isinstance(node, (ast.Subscript, ast.Starred)):
        return names_in(node.value)
    if isinstance(node, ast.IfExp):
        return names_in(node.body) | names_in(node.orelse)
    if isinstance(node, ast.BoolOp):
        return set().union(*[names_in(part) for part in node.values])
    if isinstance(node, ast.Call) and isinstance(node.func, ast.Attribute):
        return names_in(node.func.value) if node.func.attr in ("items", "keys", "values", "get", "setdefault") else set()
    if isinstance(node, ast.Call) and isinstance(node.func, ast.Name):
        return set().union(*[names_in(part) for part in node.args]) if node.func.id in WALKERS else set()
    return set()


def with_likes(function, names):
    """The names, and all others that an assignment in the function makes the same."""
    likes = []
    for node in ast.walk(function):
        if isinstance(node, ast.Assign):
            for target in node.targets:
                pairs = [(target, node.value)]
                if isinstance(target, ast.Tuple) and isinstance(node.value, ast.Tuple):
                    pairs = list(zip(target.elts, node.value.elts))
                likes.extend(names_in(one) | names_in(other) for one, other in pairs
                             if names_in(other) and not isinstance(other, ast.Subscript))
    for _ in likes:
        for like in likes:
            if like & names:
                names = names | like
    return names


def changed_names(part):
    """The names and attributes that the statements of a loop change, not only bind."""
    found = set()
    for node in ast.walk(part):
        if isinstance(node, ast.Call) and isinstance(node.func, ast.Attribute) and node.func.attr in CHANGERS:
            found |= names_in(node.func.value)
        if isinstance(node, ast.Call) and isinstance(node.func, ast.Name) and node.func.id.startswith("heap"):
            found |= names_in(node.args[0])
        if isinstance(node, (ast.Subscript, ast.Attribute)) and isinstance(node.ctx, (ast.Store, ast.Del)):
            found |= names_in(node.value) if isinstance(node, ast.Subscript) else names_in(node)
        if isinstance(node, ast.AugAssign):
            found |= names_in(node.target)
    return found


def each_file(check):
    def test(self):
        for name, tree in self.trees.items():
            with self.subTest(name):
                check(self, name, tree)
    return test


class LanguageTest(unittest.TestCase):
    @classmethod
    def setUpClass(cls):
        cls.texts = {path.stem: path.read_text(encoding="utf-8") for path in files()}
        cls.trees = {name: ast.parse(text) for name, text in cls.texts.items()}

    def test_l1_files(self):
        for path in PACKAGE.iterdir():
            if path.name != "__pycache__":
                self.assertRegex(path.name, r"^[a-z_][a-z0-9_]*\.py$")
        self.assertIn("__init__", self.texts)

    @each_file
    def test_l2_l16_imports(self, name, tree):
        imports = [item for item in tree.body if isinstance(item, ast.ImportFrom)]
        self.assertEqual(len(imports), len([n for n in ast.walk(tree) if isinstance(n, ast.ImportFrom)]))
        for item in imports:
            names = {alias.name for alias in item.names}
            self.assertTrue(all(alias.asname is None for alias in item.names))
            if item.module in LIBRARY:
                self.assertLessEqual(names, LIBRARY[item.module])
            else:
                self.assertTrue(item.module.startswith("fourhinges."), item.module)
                self.assertLessEqual(names, defined_names(self.trees[item.module.partition(".")[2]]))

    def test_l16_no_cycle(self):
        needs = {name: [item.module.partition(".")[2] for item in tree.body if isinstance(item, ast.ImportFrom)
                        and item.module.startswith("fourhinges.")] for name, tree in self.trees.items()}
        done = set()
        while len(done) < len(needs):
            ready = [name for name in needs if name not in done and all(need in done for need in needs[name])]
            self.assertTrue(ready, "files import from each other")
            done.update(ready)

    @each_file
    def test_imports_are_used(self, name, tree):
        used = {node.id for node in ast.walk(tree) if isinstance(node, ast.Name)}
        for item in tree.body:
            if isinstance(item, ast.ImportFrom):
                self.assertLessEqual({alias.name for alias in item.names}, used)

    @each_file
    def test_l3_module_level(self, name, tree):
        bound = []
        for at, item in enumerate(tree.body):
            if at == 0:
                self.assertIsNotNone(ast.get_docstring(tree))
            elif isinstance(item, ast.Assign):
                self.assertEqual([type(target) for target in item.targets], [ast.Name])
            else:
                self.assertIsInstance(item, (ast.ImportFrom, ast.FunctionDef, ast.ClassDef))
            if isinstance(item, ast.ImportFrom):
                bound.extend(alias.name for alias in item.names)
        bound.extend(defined_names(tree))
        self.assertEqual(len(bound), len(set(bound)))

    @each_file
    def test_l5_classes(self, name, tree):
        for item in ast.walk(tree):
            if isinstance(item, ast.ClassDef):
                self.assertEqual(item.decorator_list, [])
                methods = {part.name for part in item.body if isinstance(part, ast.FunctionDef)}
                self.assertLessEqual({method for method in methods if method.startswith("__")}, SPECIAL)
                self.assertTrue("__getitem__" not in methods or "__iter__" in methods)
        for function in functions_of(tree):
            for decorator in function.decorator_list:
                self.assertIn(ast.unparse(decorator).partition(".")[2] or ast.unparse(decorator),
                              ("property", "classmethod", "staticmethod", "setter"))

    @each_file
    def test_l6_l7_nodes(self, name, tree):
        for node in ast.walk(tree):
            self.assertNotIsInstance(node, BARRED_NODES)
            if isinstance(node, ast.Constant):
                self.assertNotIsInstance(node.value, (float, complex))
                self.assertFalse(isinstance(node.value, str) and chr(37) in node.value)
            if isinstance(node, ast.Call) and isinstance(node.func, ast.Name) and node.func.id in LISTS_ONLY:
                self.assertFalse(any(isinstance(part, ast.GeneratorExp) for part in node.args), ast.unparse(node))

    @each_file
    def test_l8_l17_names(self, name, tree):
        for node in ast.walk(tree):
            if isinstance(node, ast.Name):
                self.assertTrue(not hasattr(builtins, node.id) or node.id in BUILTINS, node.id)
                self.assertNotIn(node.id, BARRED_NAMES)
                self.assertFalse(node.id.startswith("__"), node.id)
            if isinstance(node, ast.Attribute):
                self.assertNotIn(node.attr, BARRED_NAMES)

    @each_file
    def test_l10_size(self, name, tree):
        lines = self.texts[name].split("\n")
        self.assertLessEqual(len(lines), 399)
        self.assertLessEqual(max(len(line) for line in lines), 120)
        for function in functions_of(tree):
            self.assertLessEqual(function.end_lineno - function.lineno + 1, 40, function.name)

    def test_l14_characters(self):
        for name, text in self.texts.items():
            self.assertRegex(text, r"\A[ -~\n]*\Z", name)

    @each_file
    def test_l15_bindings(self, name, tree):
        taken = {item.name for item in tree.body if isinstance(item, ast.ClassDef)}
        for item in tree.body:
            if isinstance(item, ast.ImportFrom):
                taken.update(alias.name for alias in item.names)
        for function in functions_of(tree):
            local = {node.arg for node in ast.walk(function) if isinstance(node, ast.arg)}
            local |= {node.id for node in ast.walk(function)
                      if isinstance(node, ast.Name) and isinstance(node.ctx, ast.Store)}
            self.assertFalse(local & taken, local & taken)
            self.assertFalse({word for word in local if hasattr(builtins, word)})

    def test_l17_words(self):
        for name, text in self.texts.items():
            self.assertIsNone(BARRED_WORDS.search(text), name)

    @each_file
    def test_l20_is(self, name, tree):
        for node in ast.walk(tree):
            if isinstance(node, ast.Compare):
                for sign, right in zip(node.ops, node.comparators):
                    self.assertTrue(not isinstance(sign, (ast.Is, ast.IsNot)) or is_plain(right))

    def test_l18_methods_and_attributes(self):
        methods, attributes = set(), set()
        for tree in self.trees.values():
            for node in ast.walk(tree):
                if isinstance(node, ast.ClassDef):
                    methods.update(part.name for part in node.body if isinstance(part, ast.FunctionDef))
                if isinstance(node, ast.Attribute) and isinstance(node.ctx, ast.Store):
                    attributes.add(node.attr)
        self.assertFalse(methods & attributes)

    def test_l23_generators(self):
        names = [function.name for tree in self.trees.values() for function in functions_of(tree)]
        for tree in self.trees.values():
            for function in functions_of(tree):
                if any(isinstance(node, (ast.Yield, ast.YieldFrom)) for node in ast.walk(function)):
                    self.assertEqual(names.count(function.name), 1)

    @each_file
    def test_l23_loops_keep_what_they_walk(self, name, tree):
        for function in functions_of(tree):
            for node in ast.walk(function):
                if isinstance(node, ast.For):
                    walked = with_likes(function, names_in(node.iter))
                    for part in node.body:
                        self.assertFalse(walked & changed_names(part), f"{name} {node.lineno}")
                for part in getattr(node, "generators", []):
                    walked = with_likes(function, names_in(part.iter))
                    self.assertFalse(walked & changed_names(node), f"{name} {node.lineno}")

    def test_helpers_are_defined_once(self):
        seen = {}
        for name, tree in self.trees.items():
            for item in tree.body:
                if isinstance(item, ast.FunctionDef):
                    self.assertNotIn(item.name, seen, f"{name} and {seen.get(item.name)}")
                    seen[item.name] = name
