"""The rules of LANGUAGE.md, as far as the trees of the package's files show them."""

import ast
import builtins
import os
import re
import unittest

ROOT = os.path.join(os.path.dirname(os.path.dirname(os.path.abspath(__file__))), "latchroads")
FILES = sorted(name for name in os.listdir(ROOT) if name != "__pycache__")

BUILTINS = set("""len range enumerate zip min max sum abs sorted reversed int str bool bytes list tuple dict set
    frozenset isinstance ord repr any all divmod pow getattr hasattr setattr iter next map Exception ValueError
    TypeError KeyError IndexError LookupError ZeroDivisionError ArithmeticError OverflowError RuntimeError
    NotImplementedError AttributeError StopIteration NotImplemented property staticmethod classmethod super""".split())
METHODS = set("""append clear copy count endswith extend find get index insert isalnum isalpha isdigit islower
    isspace isupper items join keys ljust lower lstrip partition pop remove replace reverse rfind rjust rpartition
    rsplit rstrip setdefault split splitlines startswith strip update upper values zfill bit_length add
    discard""".split())
DUNDERS = {"__init__", "__eq__", "__repr__", "__str__", "__len__", "__enter__", "__exit__", "__call__", "__iter__"}
WORDS = set("""type typing typing_extensions enum Enum IntEnum StrEnum Flag IntFlag Generic Protocol ABC ABCMeta
    namedtuple NamedTuple TypedDict TYPE_CHECKING abstractmethod dataclass overload contextmanager _wall
    _WallAttr""".split())
NAMES = set("""register mro elements open input law version_info with_traceback add_note attrgetter breakpoint
    builtins compile copyright credits delattr dir eval exec exit gc globals help id importlib license locals
    methodcaller os quit vars sys""".split())
LIBRARY = {"heapq": {"heappush", "heappop", "heapify", "heapreplace", "heappushpop"},
           "math": {"gcd", "lcm", "isqrt", "comb", "perm", "factorial"}}
STATEMENTS = (ast.Assign, ast.AugAssign, ast.If, ast.While, ast.For, ast.Return, ast.Break, ast.Continue, ast.Pass,
              ast.Raise, ast.Assert, ast.Delete, ast.Try, ast.Expr, ast.FunctionDef, ast.ClassDef, ast.ImportFrom)
ITERATING = {"list", "tuple", "dict", "sorted", "sum", "any", "all", "enumerate", "zip", "min", "max"}
AT_ONCE = {"range", "enumerate", "zip", "reversed"}


def path(name):
    return os.path.join(ROOT, name)


def text_of(name):
    with open(path(name), encoding="utf-8") as file:
        return file.read()


def with_parents(tree):
    for node in ast.walk(tree):
        for child in ast.iter_child_nodes(node):
            child.parent = node
    return tree


TREES = {name: with_parents(ast.parse(text_of(name))) for name in FILES}


def nodes(*kinds):
    return [(name, node) for name, tree in TREES.items() for node in ast.walk(tree) if isinstance(node, kinds)]


def defined(tree):
    """The names that a file defines itself at module level."""
    found = [node.name for node in tree.body if isinstance(node, (ast.FunctionDef, ast.ClassDef))]
    return found + [target.id for node in tree.body if isinstance(node, ast.Assign) for target in node.targets]


def imported(tree):
    return [alias.name for node in tree.body if isinstance(node, ast.ImportFrom) for alias in node.names]


def bound(tree):
    """All names that are assigned, by any means, within a file's functions."""
    found = [node.id for node in ast.walk(tree) if isinstance(node, ast.Name) and isinstance(node.ctx, ast.Store)]
    found += [node.arg for node in ast.walk(tree) if isinstance(node, ast.arg)]
    return found + [node.name for node in ast.walk(tree)
                    if isinstance(node, (ast.FunctionDef, ast.ClassDef, ast.ExceptHandler)) and node.name]


def is_plain(node):
    if isinstance(node, (ast.Constant, ast.Name)):
        return True
    if isinstance(node, (ast.Tuple, ast.List)):
        return all(is_plain(item) for item in node.elts)
    if isinstance(node, ast.Dict):
        return all(is_plain(item) for item in node.keys + node.values)
    if isinstance(node, ast.BinOp):
        return is_plain(node.left) and is_plain(node.right)
    return isinstance(node, ast.UnaryOp) and is_plain(node.operand)


def is_docstring(node):
    return isinstance(node, ast.Expr) and isinstance(node.value, ast.Constant) and isinstance(node.value.value, str)


def within_comprehension(node, top):
    while node is not top:
        if isinstance(node, ast.comprehension):
            return True
        node = node.parent
    return False


def called(node):
    return node.func.id if isinstance(node, ast.Call) and isinstance(node.func, ast.Name) else None


class LanguageTest(unittest.TestCase):

    def test_files(self):
        for name in FILES:
            self.assertRegex(name, r"^[a-z_][a-z0-9_]*\.py$")
            self.assertNotIn(name[:-3], dir(builtins))
            self.assertFalse(re.match("law_|test", name), name)
        self.assertIn("__init__.py", FILES)
        self.assertLessEqual(len(FILES), 100)

    def test_lines_and_characters(self):
        for name in FILES:
            text = text_of(name)
            self.assertTrue(all(sign == "\n" or " " <= sign <= "~" for sign in text), name)
            rows = text.splitlines()
            self.assertLessEqual(len(rows), 399, name)
            for row in rows:
                self.assertLessEqual(len(row), 120, (name, row))

    def test_functions_are_short(self):
        for name, node in nodes(ast.FunctionDef):
            self.assertLessEqual(node.end_lineno - node.lineno + 1, 40, (name, node.name))

    def test_imports(self):
        for name, node in nodes(ast.Import, ast.ImportFrom):
            self.assertIsInstance(node, ast.ImportFrom, name)
            self.assertIs(node.parent, TREES[name])
            for alias in node.names:
                self.assertIsNone(alias.asname)
                if node.module in LIBRARY:
                    self.assertIn(alias.name, LIBRARY[node.module])
                else:
                    package, file = node.module.split(".")
                    self.assertEqual((package, node.level), ("latchroads", 0))
                    self.assertIn(alias.name, defined(TREES[file + ".py"]), (name, alias.name))

    def test_imports_are_used(self):
        for name, tree in TREES.items():
            read = {node.id for node in ast.walk(tree) if isinstance(node, ast.Name)}
            self.assertLessEqual(set(imported(tree)), read, name)

    def test_no_files_import_each_other(self):
        leads = {name: {node.module.split(".")[1] + ".py" for node in tree.body
                        if isinstance(node, ast.ImportFrom) and node.module not in LIBRARY}
                 for name, tree in TREES.items()}
        while leads:
            ends = [name for name in leads if not any(to in leads for to in leads[name])]
            self.assertTrue(ends, leads)
            leads = {name: leads[name] for name in leads if name not in ends}

    def test_module_level(self):
        for name, tree in TREES.items():
            for at, node in enumerate(tree.body):
                if isinstance(node, ast.Assign):
                    self.assertEqual([len(node.targets), type(node.targets[0])], [1, ast.Name], name)
                    self.assertTrue(is_plain(node.value), name)
                elif not isinstance(node, (ast.ImportFrom, ast.FunctionDef, ast.ClassDef)):
                    self.assertTrue(at == 0 and is_docstring(node), name)
            names = defined(tree) + imported(tree)
            self.assertEqual(len(names), len(set(names)), name)

    def test_statements(self):
        for name, node in nodes(ast.stmt):
            self.assertIsInstance(node, STATEMENTS, name)
            if isinstance(node, ast.Expr):
                self.assertTrue(is_docstring(node) or isinstance(node.value, ast.Call), (name, node.lineno))
            if isinstance(node, ast.Raise) and node.exc is not None:
                self.assertIn(called(node.exc), defined(TREES["errors.py"]), (name, node.lineno))

    def test_no_generators_no_decorators(self):
        # The package does without these; rules for them would have to be checked one by one.
        barred = (ast.With, ast.Yield, ast.YieldFrom, ast.Await, ast.NamedExpr, ast.JoinedStr, ast.ExceptHandler,
                  ast.GeneratorExp, ast.Set, ast.Global, ast.Nonlocal, ast.Match, ast.Div, ast.AnnAssign)
        self.assertEqual(nodes(*barred), [])
        for name, node in nodes(ast.FunctionDef, ast.ClassDef):
            for inner in node.decorator_list:
                self.assertEqual([inner.id, type(node.parent)], ["property", ast.ClassDef], (name, node.name))
                self.assertEqual([argument.arg for argument in node.args.args], ["self"], (name, node.name))

    def test_finally(self):
        # Rows of a `finally`: a test for None, and names that are assigned to attributes.
        for name, node in nodes(ast.Try):
            self.assertEqual(node.orelse, [], name)
            for inner in node.finalbody:
                self.assertIsInstance(inner, ast.If, name)
                self.assertRegex(ast.unparse(inner.test), r"^\w+ is None$")
                self.assertEqual(inner.orelse, [], name)
                for row in inner.body:
                    self.assertRegex(ast.unparse(row), r"^self\.\w+(, self\.\w+)* = \w+(, \w+)*$|"
                                                       r"^\(?self\.\w+(, self\.\w+)*\)? = \(?\w+(, \w+)*\)?$")

    def test_names(self):
        classes = {name for tree in TREES.values() for name in defined(tree) if name[:1].isupper()}
        for name, tree in TREES.items():
            names = bound(tree)
            for word in names:
                self.assertNotIn(word, NAMES, name)
                if word not in DUNDERS:
                    self.assertNotIn(word, dir(builtins), name)
                    self.assertRegex(word, r"^(_|_?[A-Za-z][A-Za-z0-9_]*)$")
            inner = set(names) - set(defined(tree))
            self.assertFalse(inner & (set(imported(tree)) | classes), name)
            reads = {node.id for node in ast.walk(tree)
                     if isinstance(node, ast.Name) and isinstance(node.ctx, ast.Load)}
            self.assertLessEqual(reads - set(names) - set(imported(tree)), BUILTINS, name)
            self.assertNotIn("_", reads, name)

    def test_barred_words(self):
        for name, node in nodes(ast.Name, ast.Attribute, ast.Constant):
            if isinstance(node, ast.Constant) and (not isinstance(node.value, str) or is_docstring(node.parent)):
                continue
            text = node.id if isinstance(node, ast.Name) else node.attr if isinstance(node, ast.Attribute) else node.value
            self.assertFalse(WORDS & set(re.split(r"\W+", text)), (name, text))

    def test_strings_and_numbers(self):
        for name, node in nodes(ast.Constant):
            self.assertIsInstance(node.value, (int, str, type(None)), name)
            if isinstance(node.value, str):
                self.assertNotIn("%", node.value, name)
        for name in FILES:
            self.assertNotIn("chr(", text_of(name))
            self.assertFalse(re.search(r"\\[^nt\\\"']", text_of(name)), name)

    def test_powers(self):
        for name, node in nodes(ast.BinOp):
            if isinstance(node.op, ast.Pow):
                self.assertIsInstance(node.right, ast.Constant, (name, node.lineno))
                self.assertIn(node.right.value, range(65))

    def test_is(self):
        for name, node in nodes(ast.Compare):
            for op, side in zip(node.ops, node.comparators):
                if isinstance(op, (ast.Is, ast.IsNot)):
                    self.assertTrue(isinstance(side, ast.Constant) and side.value in (None, True, False), name)

    def test_methods(self):
        own = {node.name for _, node in nodes(ast.FunctionDef) if isinstance(node.parent, ast.ClassDef)}
        for name, node in nodes(ast.Attribute):
            if isinstance(node.parent, ast.Call) and node.parent.func is node:
                self.assertIn(node.attr, METHODS | own, (name, node.lineno))
                self.assertEqual(node.parent.keywords, [], (name, node.lineno))

    def test_iterated_at_once(self):
        for name, node in nodes(ast.Call):
            views = isinstance(node.func, ast.Attribute) and node.func.attr in ("items", "keys", "values")
            if called(node) in AT_ONCE or views:
                above = node.parent
                looped = isinstance(above, (ast.For, ast.comprehension)) and above.iter is node
                inside = isinstance(above, ast.Compare) and called(node) == "range"
                self.assertTrue(looped or inside or called(above) in ITERATING, (name, node.lineno))

    def test_sets(self):
        for name, node in nodes(ast.SetComp, ast.Call):
            if isinstance(node, ast.SetComp) or called(node) == "set":
                self.assertIn(called(node.parent), ("sorted", "len"), (name, node.lineno))

    def test_inner_names_are_new(self):
        # The names of a comprehension, or lambda, within another one are none of those further out.
        inner_kinds = (ast.ListComp, ast.SetComp, ast.DictComp, ast.Lambda)

        def own_names(node):
            if isinstance(node, ast.Lambda):
                return {argument.arg for argument in node.args.args}
            return {name.id for part in node.generators for name in ast.walk(part.target) if isinstance(name, ast.Name)}

        def check(name, node, outer, within):
            for inner in ast.iter_child_nodes(node):
                if isinstance(inner, inner_kinds):
                    names = own_names(inner) - {"_"}
                    if within:
                        self.assertFalse(names & outer, (name, inner.lineno))
                    check(name, inner, outer | names, True)
                else:
                    check(name, inner, outer, within)

        for name, node in nodes(ast.FunctionDef):
            assigned = {part.id for part in ast.walk(node) if isinstance(part, ast.Name)
                        and isinstance(part.ctx, ast.Store) and not within_comprehension(part, node)}
            check(name, node, assigned | {argument.arg for argument in node.args.args}, False)

    def test_classes_without_operators(self):
        for name, node in nodes(ast.ClassDef):
            self.assertEqual(len(node.bases), 1 if name == "errors.py" else 0, (name, node.name))
            for inner in node.body:
                if is_docstring(inner):
                    continue
                self.assertIsInstance(inner, ast.FunctionDef, (name, node.name))
                self.assertTrue(inner.name in DUNDERS or not inner.name.startswith("__"), (name, inner.name))
                self.assertTrue(inner.name in DUNDERS or name != "errors.py", (name, inner.name))

    def test_attributes_and_methods_have_unlike_names(self):
        methods = [node.name for _, node in nodes(ast.FunctionDef) if isinstance(node.parent, ast.ClassDef)]
        methods = [name for name in methods if name not in DUNDERS]
        self.assertEqual(len(methods), len(set(methods)))
        assigned = {node.attr for _, node in nodes(ast.Attribute) if isinstance(node.ctx, ast.Store)}
        self.assertFalse(assigned & set(methods))
        read = {node.attr for _, node in nodes(ast.Attribute) if isinstance(node.ctx, ast.Load)}
        self.assertLessEqual(read, assigned | set(methods) | METHODS)

    def test_loops_leave_alone_what_they_go_over(self):
        modifying = ("append", "pop", "insert", "remove", "clear", "extend", "reverse", "setdefault", "update")
        for name, node in nodes(ast.For):
            over = {inner.id for inner in ast.walk(node.iter) if isinstance(inner, ast.Name)}
            for inner in ast.walk(ast.Module(node.body, [])):
                if isinstance(inner, ast.Attribute) and inner.attr in modifying and isinstance(inner.value, ast.Name):
                    self.assertNotIn(inner.value.id, over, (name, inner.lineno))
