"""More rules of LANGUAGE.md that can be looked up: stars in subscripts, and what properties and operators run."""

import ast
import unittest

from tests.test_language import BUILTINS, METHODS, TREES, nodes, where

CHANGING = set(
    "append extend pop insert remove clear update setdefault reverse sort add discard undo".split())
# What is run by looking at an object alone, beside properties.
LOOKING = set(
    "__eq__ __ne__ __str__ __repr__ __len__ __lt__ __le__ __gt__ __ge__ __contains__ __getitem__ __bool__ __add__ __sub__ "
    "__mul__ __floordiv__ __mod__ __and__ __or__ __xor__ __neg__ __invert__ __abs__".split())
MAKING = set("list dict set sorted tuple str".split())


def stars_in_subscripts(tree):
    """The subscripts with a star anywhere inside of their brackets."""
    return [
        node for node in ast.walk(tree)
        if isinstance(node, ast.Subscript) and any(isinstance(inner, ast.Starred) for inner in ast.walk(node.slice))]


def is_made_here(worth):
    """Whether a value is a list, dict or set that the row itself creates."""
    if isinstance(worth, (ast.List, ast.Dict, ast.ListComp, ast.DictComp, ast.Set, ast.SetComp)):
        return True
    return isinstance(worth, ast.Call) and isinstance(worth.func, ast.Name) and worth.func.id in MAKING


def made_in(function):
    """The local names that are only ever assigned what the function itself creates."""
    made, other = set(), {arg.arg for arg in ast.walk(function.args) if isinstance(arg, ast.arg)}
    for node in ast.walk(function):
        if isinstance(node, ast.Assign):
            for target in node.targets:
                if isinstance(target, ast.Name):
                    (made if is_made_here(node.value) else other).add(target.id)
        elif isinstance(node, (ast.For, ast.comprehension)):
            other |= {inner.id for inner in ast.walk(node.target) if isinstance(inner, ast.Name)}
    return made - other


def locals_of(function):
    found = {arg.arg for arg in ast.walk(function.args) if isinstance(arg, ast.arg)}
    return found | {node.id for node in ast.walk(function) if isinstance(node, ast.Name) and isinstance(node.ctx, ast.Store)}


def is_own(function, value):
    """Whether an attribute belongs to an object that its own `__init__` sets up."""
    return function.name == "__init__" and isinstance(value, ast.Name) and value.id == function.args.args[0].arg


class Package:
    """The functions and methods of some trees, and what breaks the rule for what a property or operator runs."""

    def __init__(self, trees):
        self.functions, self.methods, self.classes, self.starts = {}, {}, {}, []
        for tree in trees:
            for node in tree.body:
                if isinstance(node, ast.FunctionDef):
                    self.functions.setdefault(node.name, []).append(node)
                elif isinstance(node, ast.ClassDef):
                    self.classes[node.name] = node
                    self.add_class(node)

    def add_class(self, node):
        for entry in node.body:
            if isinstance(entry, ast.FunctionDef):
                self.methods.setdefault(entry.name, []).append(entry)
                marked = [ast.unparse(decorator) for decorator in entry.decorator_list]
                if "property" in marked or entry.name in LOOKING:
                    self.starts.append((node.name, entry))

    def called(self, call):
        """The functions that a call can run, by the name alone, and whether it is a call of something else."""
        func = call.func
        if isinstance(func, ast.Name):
            if func.id in self.classes:
                return [entry for entry in self.classes[func.id].body
                        if isinstance(entry, ast.FunctionDef) and entry.name == "__init__"], False
            return self.functions.get(func.id, []), func.id not in self.functions and func.id not in BUILTINS
        if isinstance(func, ast.Attribute):
            return self.methods.get(func.attr, []), False
        return [], True

    def breaks(self, function):
        """The rows of a function that change something, or call what it is passed or holds."""
        found = []
        made, local = made_in(function), locals_of(function)
        for node in ast.walk(function):
            if isinstance(node, (ast.Attribute, ast.Subscript)) and isinstance(node.ctx, (ast.Store, ast.Del)):
                fits = isinstance(node.value, ast.Name) and node.value.id in made
                if not fits and not is_own(function, node.value):
                    found.append(node)
            elif isinstance(node, ast.AugAssign) and not isinstance(node.value, ast.Constant):
                found.append(node)
            elif isinstance(node, (ast.Nonlocal, ast.Yield, ast.YieldFrom)):
                found.append(node)
            elif isinstance(node, ast.Call) and self.breaks_by_call(node, made, local):
                found.append(node)
        return found

    def breaks_by_call(self, node, made, local):
        if self.called(node)[1] or isinstance(node.func, ast.Name) and node.func.id in local:
            return True
        if not isinstance(node.func, ast.Attribute):
            return False
        name, value = node.func.attr, node.func.value
        if name in CHANGING and not (isinstance(value, ast.Name) and value.id in made):
            return True
        if name not in self.methods and name not in METHODS:
            return True
        # A method of what is held: `self.held.method(..)`, where the package has a method of this name.
        return name in self.methods and isinstance(value, ast.Attribute)

    def wrong(self):
        """The triples (class, start, row) of all that a property or operator runs against the rule."""
        found = []
        for owner, start in self.starts:
            seen, todo = [], [start]
            while todo:
                function = todo.pop()
                if function in seen:
                    continue
                seen.append(function)
                found.extend((owner, start.name, ast.unparse(node)) for node in self.breaks(function))
                for node in ast.walk(function):
                    if isinstance(node, ast.Call):
                        todo.extend(self.called(node)[0])
        return found


def kept_tables(trees):
    """The names of lists and dicts at module level that are not only read: passed on, returned or given another name."""
    tables = {node.targets[0].id for tree in trees for node in tree.body
              if isinstance(node, ast.Assign) and isinstance(node.value, (ast.List, ast.Dict))}
    found = []
    for tree in trees:
        outer = {inner: node for node in ast.walk(tree) for inner in ast.iter_child_nodes(node)}
        for node in ast.walk(tree):
            if isinstance(node, ast.Name) and isinstance(node.ctx, ast.Load) and node.id in tables:
                above = outer[node]
                reading = isinstance(above, (ast.Attribute, ast.For, ast.comprehension, ast.Compare)) or (
                    isinstance(above, ast.Subscript) and above.value is node) or (
                    isinstance(above, ast.Call) and isinstance(above.func, ast.Name) and above.func.id in MAKING | {"len", "min", "max", "sum"})
                if not reading:
                    found.append(node.id)
    return found


class TablesTest(unittest.TestCase):
    def test_tables_are_only_read(self):
        self.assertEqual(kept_tables(TREES.values()), [])
        for text, many in (("A = {}\ndef f():\n return g(A)", 1), ("A = []\ndef f():\n return A", 1), ("A = {}\ndef f(k):\n return A[k], A.get(k), dict(A), k in A", 0),
                           ("A = {}\ndef f(k):\n b = A\n return b", 1), ("A = (1, 2)\ndef f():\n return A", 0)):
            self.assertEqual(len(kept_tables([ast.parse(text)])), many, text)


class SubscriptTest(unittest.TestCase):
    def test_no_star_in_a_subscript(self):
        for module, tree in TREES.items():
            self.assertEqual([where(module, node) for node in stars_in_subscripts(tree)], [])

    def test_what_is_found(self):
        for text, many in (
                ("a = xs[(*p, 2)]", 1), ("xs[(*p, 2)] = 1", 1), ("xs[*p] = 1", 1), ("a = xs[0][f((*p, 1))]", 1),
                ("a = xs[(*p, 2)] == xs[(*p, 1)]", 2), ("q = (*p, 2)\na = xs[q]", 0), ("a = f((*p, 1))[2]", 0),
                ("del xs[(1, (*p, 2))]", 1), ("a = [(*p, k) for k in xs[:2]]", 0)):
            self.assertEqual(len(stars_in_subscripts(ast.parse(text))), many, text)


class LookingTest(unittest.TestCase):
    """What a property, an operator, `__eq__`, `__str__`, `__repr__` or `__len__` runs, whoever has the method's name."""

    def test_nothing_is_changed_and_nothing_held_is_called(self):
        package = Package(TREES.values())
        self.assertGreater(len(package.starts), 30)
        self.assertEqual(package.wrong(), [])

    def test_no_property_is_called_and_no_generator_is_there(self):
        properties = {entry.name for owner, entry in Package(TREES.values()).starts if entry.decorator_list}
        for module, node in nodes(ast.Call):
            if isinstance(node.func, ast.Attribute):
                self.assertNotIn(node.func.attr, properties, where(module, node))

    def test_what_is_found(self):
        names = "class Names:\n def type_at(self, tree):\n  return self.scope.maker(tree)\n def maker(self, tree):\n  return 1\n"
        graph = "class Graph:\n def type_at(self, tree):\n  return 1\n"
        prop = "class Solver:\n @property\n def marked(self):\n  return {}\n"
        for text, many in (
                (graph + prop.format("self.type_at(1)"), 0), (graph + names + prop.format("self.type_at(1)"), 1),
                (graph + prop.format("self.graph.type_at(1)"), 1), (prop.format("self.call(1)"), 1),
                (prop.format("self.rows.pop()"), 1), (prop.format("len(self.rows)"), 0),
                ("class A:\n def __eq__(self, other):\n  self.n = 1\n  return True\n", 1),
                ("class A:\n def __str__(self):\n  return told(self)\ndef told(it):\n it.rows.append(1)\n return ''\n", 1),
                ("class A:\n def __len__(self):\n  found = []\n  found.append(1)\n  return len(found)\n", 0),
                ("class A:\n def __contains__(self, x):\n  found = self.rows\n  found.append(1)\n  return x\n", 1),
                ("def f(call):\n return call(1)\nclass A:\n def __eq__(self, other):\n  return f(other)\n", 1)):
            self.assertEqual(len(Package([ast.parse(text)]).wrong()), many, text)


if __name__ == "__main__":
    unittest.main()
