"""The package's own files: no clock, chance or files (point 1), and the plain part of Python.

These rows hold those rules of the language that the files show by themselves; each test names its rules.
"""

import ast
import builtins
import pathlib
import re
import unittest
import warnings

PACKAGE = pathlib.Path(__file__).resolve().parent.parent / "noteworth"

OWN_NAMES = set("""
    len range enumerate zip min max sum abs sorted reversed int str bool bytes list tuple dict set
    isinstance ord repr any all divmod Exception ValueError TypeError KeyError IndexError LookupError
    ZeroDivisionError ArithmeticError OverflowError RuntimeError NotImplementedError
""".split())

BARRED_WORDS = """
    type typing typing_extensions enum Enum IntEnum StrEnum Flag IntFlag Generic Protocol ABC ABCMeta
    namedtuple NamedTuple TypedDict TYPE_CHECKING abstractmethod
""".split()

NODES = (
    ast.Module, ast.ImportFrom, ast.alias, ast.FunctionDef, ast.ClassDef, ast.arguments, ast.arg, ast.Lambda,
    ast.Assign, ast.AugAssign, ast.If, ast.While, ast.For, ast.Return, ast.Break, ast.Continue, ast.Pass,
    ast.Raise, ast.Try, ast.ExceptHandler, ast.Expr, ast.Delete, ast.Assert,
    ast.Constant, ast.List, ast.Tuple, ast.Dict, ast.Set, ast.BinOp, ast.UnaryOp, ast.BoolOp, ast.Compare,
    ast.IfExp, ast.Call, ast.keyword, ast.Attribute, ast.Subscript, ast.Slice, ast.Name, ast.Starred,
    ast.ListComp, ast.DictComp, ast.SetComp, ast.comprehension, ast.JoinedStr, ast.FormattedValue,
    ast.expr_context, ast.boolop, ast.operator, ast.unaryop, ast.cmpop,
)

METHODS = ("__init__", "__eq__", "__repr__", "__str__", "__len__")

# L25, as far as texts, lists and dicts have them.
CALLED_METHODS = set("""
    append clear copy count endswith extend find get index insert isalnum isalpha isdigit islower isspace isupper items
    join keys ljust lower lstrip partition pop remove replace reverse rfind rjust rpartition rsplit rstrip setdefault
    split splitlines startswith strip update upper values zfill bit_length
""".split())

PLAIN_NODES = (ast.Constant, ast.Tuple, ast.Name, ast.Load, ast.UnaryOp, ast.USub)

WALKED = ("zip", "enumerate", "reversed", "range", "items", "keys", "values")
WALKERS = ("list", "tuple", "dict", "sorted", "sum", "any", "all", "enumerate", "zip", "bytes", "min", "max")
KEYWORDS = {"sorted": {"key", "reverse"}, "min": {"key", "default"}, "max": {"key", "default"},
            "sum": {"start"}, "enumerate": {"start"}, "zip": {"strict"}}

NAMES_NOT_USED = set("""
    register mro elements open input version_info with_traceback add_note attrgetter breakpoint builtins compile
    copyright credits delattr dir eval exec exit gc getattr globals hasattr help id importlib license locals
    methodcaller os quit setattr super type vars sys
""".split())


def texts():
    """The text of each file of the package, by its name."""
    return {path.name: path.read_text(encoding="utf-8") for path in sorted(PACKAGE.glob("*.py"))}


def trees():
    return {name: ast.parse(text) for name, text in texts().items()}


def bound_names(tree):
    """Every name that a file gives to something of its own."""
    for node in ast.walk(tree):
        if isinstance(node, (ast.FunctionDef, ast.ClassDef)):
            yield node.name
        elif isinstance(node, ast.arg):
            yield node.arg
        elif isinstance(node, ast.Name) and not isinstance(node.ctx, ast.Load):
            yield node.id
        elif isinstance(node, ast.alias):
            yield node.asname or node.name
        elif isinstance(node, ast.ExceptHandler) and node.name:
            yield node.name
        elif isinstance(node, ast.Attribute):
            yield node.attr


class FileTest(unittest.TestCase):
    def test_files(self):
        """L1, L14: plain lower-case .py files alone."""
        names = [path.name for path in PACKAGE.iterdir() if path.name != "__pycache__"]
        self.assertIn("__init__.py", names)
        for name in names:
            self.assertTrue(re.fullmatch(r"[a-z0-9_]+\.py", name), name)

    def test_signs_and_sizes(self):
        """L10, L14: signs from the blank to ~ and line feeds; files, rows and defs of a bounded size."""
        for name, text in texts().items():
            with self.subTest(name):
                self.assertTrue(re.fullmatch(r"[\n -~]*", text))
                rows = text.split("\n")
                self.assertLessEqual(len(rows), 400)
                self.assertLessEqual(max(map(len, rows)), 120)
                for node in ast.walk(ast.parse(text)):
                    if isinstance(node, ast.FunctionDef):
                        self.assertLessEqual(node.end_lineno - node.lineno + 1, 40, node.name)

    def test_words(self):
        """L17: words that stand nowhere."""
        for name, text in texts().items():
            with self.subTest(name):
                self.assertEqual(re.findall(r"\b(?:" + "|".join(BARRED_WORDS) + r")\b", text), [])
                self.assertEqual(re.findall("dataclass|overload|contextmanager", text), [])


class FormTest(unittest.TestCase):
    def test_no_warnings(self):
        """L27: no row of which Python's own reading warns."""
        with warnings.catch_warnings():
            warnings.simplefilter("error")
            for name, text in texts().items():
                compile(text, name, "exec")

    def test_nodes(self):
        """L4, L6, L7: nothing but the told forms."""
        for name, tree in trees().items():
            for node in ast.walk(tree):
                self.assertIsInstance(node, NODES, (name, getattr(node, "lineno", 0)))
                if isinstance(node, (ast.FunctionDef, ast.ClassDef)):
                    self.assertEqual(node.decorator_list, [], (name, node.name))
                if isinstance(node, ast.arguments):
                    self.assertEqual((node.vararg, node.kwarg, node.posonlyargs), (None, None, []), name)
                if isinstance(node, (ast.For, ast.While)):
                    self.assertEqual(node.orelse, [], (name, node.lineno))
                self.assertNotIsInstance(getattr(node, "op", None), (ast.Div, ast.MatMult), name)

    def test_values(self):
        """L7, L27: no float; no percent sign within a text."""
        for name, tree in trees().items():
            for node in ast.walk(tree):
                if isinstance(node, ast.Constant):
                    self.assertIn(type(node.value), (int, str, bytes, bool, type(None)), (name, node.lineno))
                    if isinstance(node.value, str):
                        self.assertNotIn("%", node.value, (name, node.lineno))

    def test_imports(self):
        """Point 1, L2, L16: the package's own modules alone, at the top, by their full names."""
        for name, tree in trees().items():
            for node in ast.walk(tree):
                self.assertNotIsInstance(node, ast.Import, name)
                if isinstance(node, ast.ImportFrom):
                    self.assertIn(node, tree.body, name)
                    self.assertEqual(node.level, 0, name)
                    self.assertRegex(node.module, r"^noteworth\.[a-z0-9_]+$")
                    self.assertNotIn("*", [alias.name for alias in node.names], name)

    def test_names_of_pythons_own(self):
        """Point 1, L8, L9: no built-in name but the told ones."""
        barred = set(dir(builtins)) - OWN_NAMES - {"True", "False", "None"}
        for name, tree in trees().items():
            used = {node.id for node in ast.walk(tree) if isinstance(node, ast.Name)}
            self.assertEqual(sorted(used & barred), [], name)

    def test_plain_names(self):
        """L5, L12, L15: no name begins with an underscore or is called like one of Python's own."""
        for name, tree in trees().items():
            for bound in bound_names(tree):
                if bound not in METHODS:
                    self.assertFalse(bound.startswith("_"), (name, bound))
                    self.assertNotIn(bound, dir(builtins), name)

    def test_top(self):
        """L3, L15: at a file's top docstring, imports, defs, classes, and names given once."""
        for name, tree in trees().items():
            given = []
            for node in tree.body:
                self.assertIsInstance(node, (ast.Expr, ast.ImportFrom, ast.FunctionDef, ast.ClassDef, ast.Assign))
                if isinstance(node, ast.Assign):
                    self.assertEqual(len(node.targets), 1, name)
                    given.append(node.targets[0].id)
                if isinstance(node, (ast.FunctionDef, ast.ClassDef)):
                    given.append(node.name)
                if isinstance(node, ast.ImportFrom):
                    given.extend([alias.asname or alias.name for alias in node.names])
            self.assertEqual(sorted(set(given)), sorted(given), name)


def local_names(tree):
    """Every parameter and local of a file's defs."""
    for outer in ast.walk(tree):
        if isinstance(outer, (ast.FunctionDef, ast.Lambda)):
            for node in ast.walk(outer):
                if isinstance(node, ast.arg):
                    yield node.arg
                elif isinstance(node, ast.Name) and not isinstance(node.ctx, ast.Load):
                    yield node.id


class TogetherTest(unittest.TestCase):
    def test_locals(self):
        """L15: no parameter and no local is called like a class or an import of its file."""
        for name, tree in trees().items():
            taken = [node.name for node in tree.body if isinstance(node, ast.ClassDef)]
            for node in tree.body:
                if isinstance(node, ast.ImportFrom):
                    taken.extend([alias.asname or alias.name for alias in node.names])
            self.assertEqual(sorted(set(taken) & set(local_names(tree))), [], name)

    def test_drawn_from_where_it_is_defined(self):
        """L16: each name is drawn from the very file that defines it."""
        defined = {}
        for name, tree in trees().items():
            defined[name] = [node.name for node in tree.body if isinstance(node, (ast.FunctionDef, ast.ClassDef))]
            defined[name] += [node.targets[0].id for node in tree.body if isinstance(node, ast.Assign)]
        for name, tree in trees().items():
            for node in tree.body:
                if isinstance(node, ast.ImportFrom):
                    for alias in node.names:
                        self.assertIn(alias.name, defined[node.module.split(".")[1] + ".py"], name)

    def test_no_two_files_draw_from_one_another(self):
        """L16: not in whatever many steps."""
        draws = {}
        for name, tree in trees().items():
            froms = [node.module.split(".")[1] for node in tree.body if isinstance(node, ast.ImportFrom)]
            draws[name] = {module + ".py" for module in froms}
        while draws:
            free = [name for name in draws if not draws[name] & set(draws)]
            self.assertNotEqual(free, [], sorted(draws))
            for name in free:
                del draws[name]

    def test_methods_and_values(self):
        """L18: no name is a method in one class and a value in another; what is asked is one of them."""
        methods, given, asked = set(), set(), set()
        for tree in trees().values():
            for node in ast.walk(tree):
                if isinstance(node, ast.ClassDef):
                    own = [part.name for part in node.body if isinstance(part, ast.FunctionDef)]
                    self.assertEqual(sorted(set(own)), sorted(own), node.name)
                    methods.update(own)
                elif isinstance(node, ast.Attribute):
                    (asked if isinstance(node.ctx, ast.Load) else given).add(node.attr)
        self.assertEqual(sorted(methods & given), [])
        plain = {method for kind in (str, list, dict) for method in dir(kind)}
        self.assertEqual(sorted(asked - methods - given - plain), [])

    def test_is(self):
        """L20: `is` stands beside None, True and False alone."""
        for name, tree in trees().items():
            for node in ast.walk(tree):
                if isinstance(node, ast.Compare) and isinstance(node.ops[0], (ast.Is, ast.IsNot)):
                    sides = [side.value for side in [node.left] + node.comparators if isinstance(side, ast.Constant)]
                    self.assertTrue([side for side in sides if side in (None, True, False)], (name, node.lineno))


def parents(tree):
    """Each node's parent."""
    return {child: node for node in ast.walk(tree) for child in ast.iter_child_nodes(node)}


def called(node):
    """The name or the method that a call calls."""
    return node.func.id if isinstance(node.func, ast.Name) else node.func.attr


def calls(tree):
    return [node for node in ast.walk(tree) if isinstance(node, ast.Call)]


def own_names(kind):
    """Names of the package's own defs, methods too, or of its classes."""
    return {node.name for tree in trees().values() for node in ast.walk(tree) if isinstance(node, kind)}


def top_names(kind):
    """Names that are given a value of a kind at a file's top."""
    return {node.targets[0].id for tree in trees().values() for node in tree.body
            if isinstance(node, ast.Assign) and isinstance(node.value, kind)}


class CallsTest(unittest.TestCase):
    def test_methods(self):
        """L25: of Python's own methods the told ones alone, each called where it stands."""
        own = own_names(ast.FunctionDef)
        for name, tree in trees().items():
            above = parents(tree)
            for node in ast.walk(tree):
                if isinstance(node, ast.Attribute):
                    parent = above[node]
                    is_called = isinstance(parent, ast.Call) and parent.func is node
                    if is_called:
                        self.assertIn(node.attr, own | CALLED_METHODS, (name, node.lineno))
                    else:
                        self.assertNotIn(node.attr, own | CALLED_METHODS, (name, node.lineno))

    def test_keywords(self):
        """L22: keywords where they are told, at names of Python's own."""
        own = own_names((ast.FunctionDef, ast.ClassDef))
        for name, tree in trees().items():
            for node in calls(tree):
                if called(node) not in own:
                    given = {keyword.arg for keyword in node.keywords}
                    self.assertLessEqual(given, KEYWORDS.get(called(node), set()), (name, node.lineno))

    def test_walked_at_once(self):
        """L23: what is walked on the spot is not kept."""
        for name, tree in trees().items():
            above = parents(tree)
            for node in calls(tree):
                if called(node) in WALKED:
                    parent = above[node]
                    walks = isinstance(parent, (ast.For, ast.comprehension)) and parent.iter is node
                    hands = isinstance(parent, ast.Call) and called(parent) in WALKERS and node in parent.args
                    self.assertTrue(walks or hands, (name, node.lineno))

    def test_sets(self):
        """L24: here a set stands within `len` or `sorted` alone."""
        for name, tree in trees().items():
            above = parents(tree)
            for node in ast.walk(tree):
                is_made = isinstance(node, ast.Call) and called(node) == "set"
                if is_made or isinstance(node, (ast.Set, ast.SetComp)):
                    self.assertIn(called(above[node]), ("len", "sorted"), (name, node.lineno))

    def test_classes(self):
        """L18: a class is called, is a base or stands by `except`."""
        classes = own_names(ast.ClassDef)
        for name, tree in trees().items():
            above = parents(tree)
            for node in ast.walk(tree):
                if isinstance(node, ast.Name) and node.id in classes:
                    parent = above[node]
                    is_called = isinstance(parent, ast.Call) and parent.func is node
                    is_based_on = isinstance(parent, ast.Attribute) and parent.attr == "__init__"
                    is_taken = isinstance(parent, (ast.ExceptHandler, ast.ClassDef))
                    self.assertTrue(is_called or is_based_on or is_taken, (name, node.lineno))

    def test_errors(self):
        """L19: refusals are made on the spot, and taken by the names of the package's own classes."""
        classes = own_names(ast.ClassDef)
        for name, tree in trees().items():
            for node in ast.walk(tree):
                if isinstance(node, ast.Raise):
                    self.assertIn(node.exc.func.id, classes, (name, node.lineno))
                if isinstance(node, ast.ExceptHandler):
                    self.assertIn(node.type.id, classes, (name, node.lineno))

    def test_tops_are_only_read(self):
        """L15: a list or dict of a file's top is indexed, walked, asked by `in` or by `get`, never handed on."""
        tops = top_names((ast.List, ast.Dict))
        for name, tree in trees().items():
            above = parents(tree)
            for node in ast.walk(tree):
                if isinstance(node, ast.Name) and node.id in tops and isinstance(node.ctx, ast.Load):
                    parent = above[node]
                    is_asked = isinstance(parent, ast.Attribute) and parent.attr == "get"
                    is_indexed = isinstance(parent, ast.Subscript) and isinstance(parent.ctx, ast.Load)
                    is_compared = isinstance(parent, ast.Compare) and node in parent.comparators
                    self.assertTrue(is_asked or is_indexed or is_compared, (name, node.lineno))

    def test_values_of_tops_and_defaults(self):
        """L3, L4, L15: plain values, with no list or dict within a list or dict; defaults are plain too."""
        for name, tree in trees().items():
            defs = [node.name for node in tree.body if isinstance(node, ast.FunctionDef)]
            for node in tree.body:
                if isinstance(node, ast.Assign):
                    parts = [part for part in ast.walk(node.value) if part is not node.value]
                    for part in parts:
                        self.assertIsInstance(part, PLAIN_NODES, (name, node.lineno))
                        if isinstance(part, ast.Name):
                            self.assertIn(part.id, defs, (name, node.lineno))
            for node in ast.walk(tree):
                if isinstance(node, ast.arguments):
                    self.assertTrue(all(isinstance(value, ast.Constant) for value in node.defaults), name)

    def test_names_not_used(self):
        """L17, L26: names that stand nowhere, and names that Python's own values have."""
        pythons = {each for kind in (str, int, list, dict, set, bytes) for each in dir(kind)}
        for name, tree in trees().items():
            used = {node.id for node in ast.walk(tree) if isinstance(node, ast.Name)} | set(bound_names(tree))
            self.assertEqual(sorted(used & NAMES_NOT_USED), [], name)
            for node in ast.walk(tree):
                if isinstance(node, ast.ClassDef):
                    own = {part.name for part in node.body if isinstance(part, ast.FunctionDef)} - set(METHODS)
                    self.assertEqual(sorted(own & pythons), [], (name, node.name))
                if isinstance(node, ast.Attribute) and isinstance(node.ctx, ast.Store):
                    self.assertNotIn(node.attr, pythons, (name, node.lineno))

    def test_what_is_walked_is_not_changed(self):
        """L23: within a loop over a name nothing is stored in it, and none of its changing methods is called."""
        changing = {"append", "clear", "extend", "insert", "pop", "remove", "reverse", "setdefault", "update", "sort"}
        for name, tree in trees().items():
            for loop in ast.walk(tree):
                if not isinstance(loop, ast.For):
                    continue
                walked = {ast.unparse(node) for node in [loop.iter] + list(getattr(loop.iter, "args", []))
                          if isinstance(node, (ast.Name, ast.Attribute))}
                if isinstance(loop.iter, ast.Call) and called(loop.iter) == "list":
                    walked = set()
                for node in [part for row in loop.body for part in ast.walk(row)]:
                    if isinstance(node, ast.Subscript) and not isinstance(node.ctx, ast.Load):
                        self.assertNotIn(ast.unparse(node.value), walked, (name, node.lineno))
                    if isinstance(node, ast.Call) and called(node) in changing and isinstance(node.func, ast.Attribute):
                        self.assertNotIn(ast.unparse(node.func.value), walked, (name, node.lineno))

    def test_escapes(self):
        """L27: no escape but for a line feed, a tab, a backslash or a quote."""
        for name, text in texts().items():
            self.assertEqual(re.findall(r"\\[^nt\\'\"]", text), [], name)


if __name__ == "__main__":
    unittest.main()
