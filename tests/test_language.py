"""The rules of LANGUAGE.md that can be looked up in the files of the package."""

import ast
import builtins
import io
import os
import tokenize
import unittest

TOP = os.path.dirname(os.path.dirname(os.path.abspath(__file__)))
PACKAGE = os.path.join(TOP, "letquay")

BUILTINS = set(
    "len range enumerate zip min max sum abs sorted reversed int str bool bytes list tuple dict set frozenset isinstance "
    "ord repr any all divmod pow getattr hasattr setattr Exception ValueError TypeError KeyError IndexError LookupError "
    "ZeroDivisionError ArithmeticError OverflowError RuntimeError NotImplementedError AttributeError StopIteration "
    "NotImplemented iter next map object float super property staticmethod classmethod".split())
METHODS = set(
    "append clear copy count endswith extend find get index insert isalnum isalpha isdigit islower isspace isupper items "
    "join keys ljust lower lstrip partition pop remove replace reverse rfind rjust rpartition rsplit rstrip setdefault "
    "split splitlines startswith strip update upper values zfill bit_length title capitalize swapcase casefold center "
    "expandtabs removeprefix removesuffix rindex isascii isdecimal isnumeric istitle isidentifier isprintable add "
    "discard".split())
NEVER = set("register mro elements open input law version_info with_traceback add_note".split())
NO_NAMES = set(
    "attrgetter breakpoint builtins compile copyright credits delattr dir eval exec exit gc globals help id importlib "
    "license locals methodcaller os quit type vars sys".split())
NO_WORDS = set(
    "typing typing_extensions enum Enum IntEnum StrEnum Flag IntFlag Generic Protocol ABC ABCMeta namedtuple NamedTuple "
    "TypedDict TYPE_CHECKING abstractmethod dataclass overload contextmanager".split())
NO_ATTRIBUTES = set(
    "items keys values pop update append clear extend insert remove reverse setdefault sort args encode decode hex "
    "fromhex format format_map".split())
SPECIAL = set(
    "__init__ __eq__ __repr__ __str__ __len__ __enter__ __exit__ __call__ __iter__ __lt__ __le__ __gt__ __ge__ __ne__ "
    "__contains__ __getitem__ __setitem__ __bool__".split())
STATEMENTS = (
    ast.FunctionDef, ast.ClassDef, ast.Return, ast.Delete, ast.Assign, ast.AugAssign, ast.For, ast.While, ast.If,
    ast.With, ast.Match, ast.Raise, ast.Try, ast.Assert, ast.ImportFrom, ast.Nonlocal, ast.Expr, ast.Pass, ast.Break,
    ast.Continue)
AT_ONCE = {"zip", "enumerate", "reversed", "range"}
TAKING = {"list", "tuple", "dict", "sorted", "sum", "any", "all", "enumerate", "zip", "min", "max", "len", "reversed"}


def files():
    """The pairs (module name, path) of all files of the package."""
    found = []
    for folder, folders, names in os.walk(PACKAGE):
        folders[:] = sorted(name for name in folders if name != "__pycache__")
        for name in sorted(names):
            path = os.path.join(folder, name)
            found.append((os.path.relpath(path, TOP)[:-3].replace(os.sep, "."), path))
    return found


def read(path):
    with open(path, encoding="utf-8") as held:
        return held.read()


SOURCES = {module: read(path) for module, path in files() if path.endswith(".py")}
TREES = {module: ast.parse(text) for module, text in SOURCES.items()}


def nodes(kind):
    """The pairs (module, node) of one kind of node in all files."""
    return [(module, node) for module, tree in TREES.items() for node in ast.walk(tree) if isinstance(node, kind)]


def parents_of(tree):
    return {inner: outer for outer in ast.walk(tree) for inner in ast.iter_child_nodes(outer)}


def where(module, node):
    return f"{module}:{getattr(node, 'lineno', 0)}"


def own_names(tree):
    return [node.name for node in tree.body if isinstance(node, (ast.FunctionDef, ast.ClassDef))] + [
        node.targets[0].id for node in tree.body if isinstance(node, ast.Assign)]


class FilesTest(unittest.TestCase):
    def test_nothing_but_files_of_the_program(self):
        found = files()
        self.assertLessEqual(len(found), 100)
        folders = set()
        for _, path in found:
            name = os.path.basename(path)
            self.assertTrue(name.endswith(".py") and name == name.lower(), path)
            folders.add(os.path.dirname(path))
            self.assertFalse(os.path.isdir(path[:-3]), path)
        for folder in folders:
            self.assertTrue(os.path.exists(os.path.join(folder, "__init__.py")), folder)

    def test_sizes_and_characters(self):
        for module, text in SOURCES.items():
            lines = text.split("\n")
            self.assertLessEqual(len(lines) - 1, 399, module)
            self.assertTrue(text == "" or text.endswith("\n"), module)
            for number, line in enumerate(lines, 1):
                self.assertLessEqual(len(line), 120, f"{module}:{number}")
                self.assertTrue(all(" " <= c <= "~" for c in line), f"{module}:{number}")
                self.assertFalse(line.endswith(" "), f"{module}:{number}")
        for module, node in nodes(ast.FunctionDef):
            self.assertLessEqual(node.end_lineno - node.lineno + 1, 40, where(module, node))

    def test_strings(self):
        for module, text in SOURCES.items():
            for token in tokenize.generate_tokens(io.StringIO(text).readline):
                if token.type == tokenize.STRING:
                    self.assertNotIn("%", token.string, f"{module}:{token.start}")
                    inside = token.string.replace("\\\\", "")
                    for at, letter in enumerate(inside[:-1]):
                        if letter == "\\":
                            self.assertIn(inside[at + 1], "nt\"'", f"{module}:{token.start}")
        for module, node in nodes(ast.Constant):
            if isinstance(node.value, str):
                self.assertFalse(node.value.endswith(("._", ".__")), where(module, node))
                self.assertFalse(node.value.startswith("__"), where(module, node))
            self.assertNotIsInstance(node.value, (float, complex))

    def test_words(self):
        for module, text in SOURCES.items():
            for token in tokenize.generate_tokens(io.StringIO(text).readline):
                if token.type == tokenize.NAME:
                    self.assertNotIn(token.string, NO_WORDS | NEVER | {"global", "async", "await"}, module)
                    self.assertFalse(token.string.startswith("__") and token.string not in SPECIAL, token)


class ModulesTest(unittest.TestCase):
    def test_imports(self):
        for module, node in nodes((ast.Import, ast.ImportFrom)):
            self.assertIsInstance(node, ast.ImportFrom, where(module, node))
            self.assertIn(node, TREES[module].body, where(module, node))
            self.assertEqual(node.level, 0)
            self.assertIn(node.module, TREES, where(module, node))
            for alias in node.names:
                self.assertIs(alias.asname, None)
                self.assertIn(alias.name, own_names(TREES[node.module]), where(module, node))

    def test_each_import_is_used(self):
        for module, tree in TREES.items():
            used = {node.id for node in ast.walk(tree) if isinstance(node, ast.Name)}
            for node in ast.walk(tree):
                if isinstance(node, ast.ImportFrom):
                    for alias in node.names:
                        self.assertIn(alias.name, used, where(module, node))

    def test_no_rings(self):
        reached = {module: self.imported(tree) for module, tree in TREES.items()}
        for start in TREES:
            seen, todo = set(), list(reached[start])
            while todo:
                module = todo.pop()
                self.assertNotEqual(module, start)
                if module not in seen:
                    seen.add(module)
                    todo.extend(reached.get(module, ()))

    @staticmethod
    def imported(tree):
        return {node.module for node in ast.walk(tree) if isinstance(node, ast.ImportFrom)}

    def test_module_level(self):
        for module, tree in TREES.items():
            names = []
            for node in tree.body:
                if isinstance(node, ast.Expr):
                    self.assertIsInstance(node.value, ast.Constant, where(module, node))
                    continue
                self.assertIsInstance(
                    node, (ast.ImportFrom, ast.FunctionDef, ast.ClassDef, ast.Assign), where(module, node))
                if isinstance(node, ast.ImportFrom):
                    names.extend(alias.name for alias in node.names)
                elif isinstance(node, ast.Assign):
                    self.assertEqual(len(node.targets), 1)
                    names.append(node.targets[0].id)
                    plain = (ast.Constant, ast.Tuple, ast.List, ast.Dict, ast.BinOp, ast.UnaryOp, ast.Name, ast.operator,
                             ast.unaryop, ast.expr_context)
                    for inner in ast.walk(node.value):
                        self.assertIsInstance(inner, plain, where(module, node))
                else:
                    names.append(node.name)
            self.assertEqual(len(set(names)), len(names), module)
            self.assertTrue(not module.endswith("__init__") or len(tree.body) <= 1)

    def test_statements(self):
        for module, node in nodes(ast.stmt):
            self.assertIsInstance(node, STATEMENTS, where(module, node))
            if isinstance(node, ast.Expr):
                self.assertIsInstance(node.value, (ast.Call, ast.Constant), where(module, node))
            if isinstance(node, ast.Raise) and node.exc is not None:
                self.assertIsInstance(node.exc, ast.Call, where(module, node))
            if isinstance(node, ast.Try):
                for handler in node.handlers:
                    self.assertIsNotNone(handler.type, where(module, node))
        for module, node in nodes(ast.expr):
            self.assertNotIsInstance(node, (ast.Await, ast.Yield, ast.YieldFrom, ast.Lambda), where(module, node))
            if isinstance(node, ast.BinOp):
                self.assertNotIsInstance(node.op, (ast.Div, ast.MatMult), where(module, node))
                if isinstance(node.op, ast.Pow):
                    self.assertIsInstance(node.right, ast.Constant, where(module, node))


class NamesTest(unittest.TestCase):
    def test_names_of_caught_errors(self):
        for module, node in nodes(ast.FunctionDef):
            caught = [entry.name for entry in ast.walk(node) if isinstance(entry, ast.ExceptHandler) and entry.name]
            stored = {entry.id for entry in ast.walk(node) if isinstance(entry, ast.Name) and isinstance(entry.ctx, ast.Store)}
            self.assertEqual(len(set(caught)), len(caught), where(module, node))
            self.assertFalse(set(caught) & stored, where(module, node))

    def test_attributes_are_assigned_through_a_local_name(self):
        for module, node in nodes(ast.Attribute):
            if isinstance(node.ctx, ast.Store):
                self.assertIsInstance(node.value, ast.Name, where(module, node))

    def test_names(self):
        every = set(dir(builtins))
        for module, tree in TREES.items():
            top = set(own_names(tree)) | {
                alias.name for node in tree.body if isinstance(node, ast.ImportFrom) for alias in node.names}
            classes = {node.name for node in tree.body if isinstance(node, ast.ClassDef)}
            imported = {alias.name for node in tree.body if isinstance(node, ast.ImportFrom) for alias in node.names}
            local = set()
            for node in ast.walk(tree):
                if isinstance(node, ast.arg):
                    local.add(node.arg)
                elif isinstance(node, ast.Name) and isinstance(node.ctx, ast.Store) and node.id not in own_names(tree):
                    local.add(node.id)
                elif isinstance(node, ast.ExceptHandler) and node.name:
                    local.add(node.name)
            self.assertFalse(local & (classes | imported), (module, local & (classes | imported)))
            self.assertFalse((local | top) & every, (module, (local | top) & every))
            self.assertFalse((local | top) & NO_NAMES, module)
            for node in ast.walk(tree):
                if isinstance(node, ast.Name) and isinstance(node.ctx, ast.Load):
                    self.assertIn(node.id, local | top | BUILTINS, where(module, node))

    def test_attributes(self):
        methods = {node.name for _, node in nodes(ast.FunctionDef)}
        attributes = {node.attr for _, node in nodes(ast.Attribute) if isinstance(node.ctx, ast.Store)}
        self.assertFalse(attributes & NO_ATTRIBUTES)
        for module, tree in TREES.items():
            parents = parents_of(tree)
            for node in ast.walk(tree):
                if not isinstance(node, ast.Attribute):
                    continue
                called = isinstance(parents[node], ast.Call) and parents[node].func is node
                if called:
                    self.assertIn(node.attr, methods | METHODS | attributes, where(module, node))
                else:
                    self.assertIn(node.attr, methods | attributes, where(module, node))

    def test_classes(self):
        plain, decorated = set(), set()
        for module, node in nodes(ast.ClassDef):
            self.assertEqual(node.decorator_list, [])
            self.assertTrue(node.name[0].isupper(), node.name)
            methods = [entry.name for entry in node.body if isinstance(entry, ast.FunctionDef)]
            stored = {inner.attr for inner in ast.walk(node) if isinstance(inner, ast.Attribute)
                      and isinstance(inner.ctx, ast.Store)}
            self.assertEqual(len(set(methods)), len(methods), where(module, node))
            self.assertFalse(stored & set(methods), where(module, node))
            for entry in node.body:
                if isinstance(entry, ast.Expr):
                    continue
                self.assertIsInstance(entry, ast.FunctionDef, where(module, entry))
                self.assertTrue(not entry.name.startswith("__") or entry.name in SPECIAL, entry.name)
                words = [ast.unparse(decorator) for decorator in entry.decorator_list]
                self.assertTrue(words in ([], ["property"], ["classmethod"], ["staticmethod"]), words)
                (decorated if words else plain).add(entry.name)
                self.returns(module, entry)
        self.assertFalse(plain & decorated, plain & decorated)

    def test_no_name_is_an_attribute_and_a_method_or_property(self):
        """Stricter than the rules, which let this in unlike classes where nothing else stands against it."""
        inside = [entry for _, node in nodes(ast.ClassDef) for entry in node.body if isinstance(entry, ast.FunctionDef)]
        methods = {entry.name for entry in inside if not entry.decorator_list}
        decorated = {entry.name for entry in inside if entry.decorator_list}
        stored = {node.attr for _, node in nodes(ast.Attribute) if isinstance(node.ctx, ast.Store)}
        self.assertEqual((stored & methods, stored & decorated, methods & decorated), (set(), set(), set()))

    def test_methods_have_no_names_of_builtin_ones(self):
        taken = {name for kind in (str, int, list, dict, set, bytes, tuple) for name in dir(kind)} - METHODS | NO_NAMES
        for module, node in nodes(ast.ClassDef):
            for entry in node.body:
                if isinstance(entry, ast.FunctionDef) and not entry.name.startswith("__"):
                    self.assertNotIn(entry.name, taken, where(module, entry))

    def test_calls_with_stars(self):
        for module, node in nodes(ast.Call):
            for arg in node.args:
                if isinstance(arg, ast.Starred):
                    self.assertIsInstance(arg.value, (ast.Name, ast.Attribute, ast.List, ast.Tuple), where(module, node))

    def test_tables_hold_functions_of_their_own_file(self):
        for module, tree in TREES.items():
            own = {node.name for node in tree.body if isinstance(node, ast.FunctionDef)}
            every = {entry.name for _, entry in nodes(ast.FunctionDef)}
            for node in tree.body:
                if isinstance(node, ast.Assign):
                    for inner in ast.walk(node.value):
                        if isinstance(inner, ast.Name) and inner.id in every:
                            self.assertIn(inner.id, own, where(module, node))

    def returns(self, module, method):
        if method.name in ("__len__", "__str__", "__repr__"):
            self.assertIsInstance(method.body[-1], ast.Return, where(module, method))
        if method.name in ("__str__", "__repr__"):
            for node in ast.walk(method):
                if isinstance(node, ast.Return):
                    plain = isinstance(node.value, (ast.JoinedStr, ast.Constant)) or (
                        isinstance(node.value, ast.Call) and ast.unparse(node.value.func) in ("str", "repr"))
                    self.assertTrue(plain, where(module, node))
        if method.name == "__len__":
            self.assertEqual(method.body[-1].value.func.id, "len", where(module, method))
        if method.name == "__iter__":
            self.assertEqual(len(method.body), 1, where(module, method))
            self.assertIn(ast.unparse(method.body[0])[:17], ("return iter(self.", "raise TypeError('"))

    def test_decorators_stand_in_classes(self):
        for module, tree in TREES.items():
            inside = {entry for node in ast.walk(tree) if isinstance(node, ast.ClassDef) for entry in node.body}
            for node in ast.walk(tree):
                if isinstance(node, ast.FunctionDef) and node not in inside:
                    self.assertEqual(node.decorator_list, [], where(module, node))


def lengths_of_ranges(trees):
    """The `len(range(..))` in a `__len__` of a class that is iterated over, or beside a `__getitem__` in the package."""
    classes = [node for tree in trees for node in ast.walk(tree) if isinstance(node, ast.ClassDef)]
    methods = {node: {entry.name: entry for entry in node.body if isinstance(entry, ast.FunctionDef)} for node in classes}
    indexed = any("__getitem__" in found for found in methods.values())
    names = {node.name: node for node in classes}

    def has_iter(node):
        return "__iter__" in methods[node] or any(
            has_iter(names[base.id]) for base in node.bases if isinstance(base, ast.Name) and base.id in names)
    return [
        inner for node in classes if "__len__" in methods[node] and (indexed or has_iter(node))
        for inner in ast.walk(methods[node]["__len__"])
        if isinstance(inner, ast.Call) and ast.unparse(inner).startswith("len(range(")]


class CallsTest(unittest.TestCase):
    def test_no_length_of_a_range_beside_iteration(self):
        self.assertEqual([ast.unparse(node) for node in lengths_of_ranges(TREES.values())], [])
        length = "def __len__(self):\n  return len(range(self.many))\n "
        fine = length.replace("range(self.many)", "list(range(self.many))")
        walked = "def __iter__(self):\n  return iter(self.rows)\n"
        for text, many in (
                (f"class A:\n {length}{walked}", 1), (f"class A:\n {fine}{walked}", 0), (f"class A:\n {length}", 0),
                (f"class A:\n {walked}\nclass B(A):\n {length}", 1),
                (f"class A:\n {length}\nclass B:\n def __getitem__(self, at):\n  return 1", 1)):
            self.assertEqual(len(lengths_of_ranges([ast.parse(text)])), many, text)

    def test_no_generators(self):
        for module, node in nodes(ast.GeneratorExp):
            self.fail(where(module, node))

    def test_what_is_iterated_at_once(self):
        for module, tree in TREES.items():
            parents = parents_of(tree)
            for node in ast.walk(tree):
                if not isinstance(node, ast.Call):
                    continue
                name = node.func.id if isinstance(node.func, ast.Name) else None
                view = isinstance(node.func, ast.Attribute) and node.func.attr in ("items", "keys", "values")
                if name not in AT_ONCE and not view:
                    continue
                outer = parents[node]
                if isinstance(outer, (ast.For, ast.comprehension)):
                    self.assertIs(outer.iter, node)
                elif isinstance(outer, ast.Call):
                    self.assertIn(outer.func.id, TAKING, where(module, node))
                else:
                    self.fail(where(module, node))

    def test_sets(self):
        for module, tree in TREES.items():
            parents = parents_of(tree)
            for node in ast.walk(tree):
                called = isinstance(node, ast.Call) and isinstance(node.func, ast.Name) and node.func.id == "set"
                if not called and not isinstance(node, (ast.Set, ast.SetComp)):
                    continue
                outer = parents[node]
                fits = isinstance(outer, (ast.Compare, ast.Assign)) or (
                    isinstance(outer, ast.Call) and outer.func.id in ("len", "sorted"))
                self.assertTrue(fits, where(module, node))

    def test_is(self):
        for module, node in nodes(ast.Compare):
            for op, right in zip(node.ops, node.comparators):
                if isinstance(op, (ast.Is, ast.IsNot)):
                    self.assertIsInstance(right, ast.Constant, where(module, node))

    def test_keywords(self):
        allowed = {"sorted": {"key", "reverse"}, "min": {"key", "default"}, "max": {"key", "default"},
                   "sum": {"start"}, "enumerate": {"start"}, "zip": {"strict"}}
        for module, node in nodes(ast.Call):
            words = {keyword.arg for keyword in node.keywords}
            if isinstance(node.func, ast.Name) and node.func.id in BUILTINS:
                self.assertTrue(words <= allowed.get(node.func.id, set()), where(module, node))
            if isinstance(node.func, ast.Attribute) and node.func.attr in METHODS:
                self.assertFalse(words, where(module, node))
                self.assertNotEqual(node.func.attr, "sort")

    def test_defaults(self):
        for module, node in nodes(ast.FunctionDef):
            for default in (*node.args.defaults, *[entry for entry in node.args.kw_defaults if entry]):
                self.assertIsInstance(default, (ast.Constant, ast.Tuple, ast.UnaryOp, ast.Name), where(module, node))

    def test_loops_do_not_change_what_they_go_over(self):
        for module, node in nodes(ast.For):
            source = ast.unparse(node.iter)
            for inner in ast.walk(node):
                if isinstance(inner, ast.Call) and isinstance(inner.func, ast.Attribute) and inner.func.attr in (
                        "append", "extend", "pop", "insert", "remove", "clear", "update", "add", "discard"):
                    self.assertNotEqual(ast.unparse(inner.func.value), source, where(module, node))
