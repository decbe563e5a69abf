"""A rule of LANGUAGE.md that can be looked up: what a loop goes over is not changed in it (L5 Iteration, L23)."""

import ast
import unittest

from tests.test_language import TREES, where

CHANGING = set(
    "append extend pop insert remove clear update add discard setdefault reverse sort popitem".split())
VIEWS = {"items", "keys", "values"}
PASSING = {"enumerate", "zip", "reversed", "iter"}
FUNCTIONS = (ast.FunctionDef, ast.Lambda)
COMPREHENSIONS = (ast.ListComp, ast.SetComp, ast.DictComp, ast.GeneratorExp)


def is_choice(value):
    """Whether a value is one of several ones."""
    if isinstance(value, ast.NamedExpr):
        return is_choice(value.value)
    return isinstance(value, (ast.IfExp, ast.BoolOp))


def marks_of(value):
    """What tells the list that a value is, itself and no copy of it: names, fields of whatever object, items."""
    if isinstance(value, ast.Name):
        return {value.id}
    if isinstance(value, ast.Attribute):
        return {f".{value.attr}"}
    if isinstance(value, ast.Subscript):
        return set() if isinstance(value.slice, ast.Slice) else {ast.unparse(value)}
    if isinstance(value, ast.IfExp):
        return marks_of(value.body) | marks_of(value.orelse)
    if isinstance(value, ast.BoolOp):
        return set().union(*[marks_of(part) for part in value.values])
    if isinstance(value, ast.NamedExpr):
        return marks_of(value.target) | marks_of(value.value)
    return set()


def walked_marks(value):
    """What tells the lists that a loop over a value goes over."""
    if isinstance(value, ast.Call) and isinstance(value.func, ast.Attribute) and value.func.attr in VIEWS:
        return marks_of(value.func.value)
    if isinstance(value, ast.Call) and isinstance(value.func, ast.Name) and value.func.id in PASSING:
        return set().union(*[walked_marks(part) for part in value.args])
    return marks_of(value)


def is_walked_choice(value):
    """Whether a loop over a value goes over one of several lists."""
    if isinstance(value, ast.Call) and isinstance(value.func, ast.Attribute) and value.func.attr in VIEWS:
        return is_choice(value.func.value)
    if isinstance(value, ast.Call) and isinstance(value.func, ast.Name) and value.func.id in PASSING:
        return any(is_walked_choice(part) for part in value.args)
    return is_choice(value)


def assigned_in(function):
    """The pairs (target, value) of all assignments in a function, those of several targets one by one."""
    found = []
    for node in ast.walk(function):
        if isinstance(node, ast.Assign):
            todo = [(target, node.value) for target in node.targets]
            todo.extend([(target, node.targets[0]) for target in node.targets[1:]])
        elif isinstance(node, (ast.AnnAssign, ast.NamedExpr)) and node.value is not None:
            todo = [(node.target, node.value)]
        else:
            continue
        while todo:
            target, value = todo.pop()
            if isinstance(target, ast.Tuple) and isinstance(value, ast.Tuple) and len(target.elts) == len(value.elts):
                todo.extend(zip(target.elts, value.elts))
            else:
                found.append((target, value))
    return found


class Ways:
    """Which names and fields of a function can tell one list, whatever the order of its rows."""

    def __init__(self, function):
        self.group, self.chosen = {}, set()
        for target, value in assigned_in(function):
            for one in marks_of(target):
                if is_choice(value):
                    self.chosen.add(one)
                for other in marks_of(value):
                    self.group[self.first(one)] = self.first(other)

    def first(self, mark):
        while self.group.get(mark, mark) != mark:
            mark = self.group[mark]
        return mark

    def meet(self, walked, choice, changed):
        """Whether what is changed can be what a loop goes over."""
        if {self.first(mark) for mark in walked} & {self.first(mark) for mark in changed}:
            return True
        return bool((choice or walked & self.chosen) and changed & self.chosen)


def changes_in(node):
    """The pairs (row, marks) of all that a row of a loop changes."""
    found = []
    for inner in ast.walk(node):
        if isinstance(inner, ast.Call) and isinstance(inner.func, ast.Attribute) and inner.func.attr in CHANGING:
            found.append((inner, marks_of(inner.func.value)))
        elif isinstance(inner, ast.Call) and isinstance(inner.func, ast.Name) and inner.func.id.startswith("heap"):
            found.append((inner, marks_of(inner.args[0])))
        elif isinstance(inner, ast.Subscript) and isinstance(inner.ctx, (ast.Store, ast.Del)):
            found.append((inner, marks_of(inner.value)))
        elif isinstance(inner, ast.AugAssign):
            found.append((inner, marks_of(inner.target)))
    return found


def loops_in(function):
    """The pairs (what is gone over, rows) of all loops and comprehensions in a function."""
    found = []
    for node in ast.walk(function):
        if isinstance(node, ast.For):
            found.append((node.iter, node.body))
        elif isinstance(node, COMPREHENSIONS):
            rows = [node.key, node.value] if isinstance(node, ast.DictComp) else [node.elt]
            for k, part in enumerate(node.generators):
                tests = [test for later in node.generators[k:] for test in later.ifs]
                found.append((part.iter, [*rows, *tests, *[later.iter for later in node.generators[k + 1:]]]))
    return found


def changed_while_walked(tree):
    """The rows that change what a loop around them goes over, or can go over."""
    found = {}
    for function in ast.walk(tree):
        if not isinstance(function, FUNCTIONS):
            continue
        ways = Ways(function)
        for walked, rows in loops_in(function):
            marks, choice = walked_marks(walked), is_walked_choice(walked)
            for row in rows:
                for node, changed in changes_in(row):
                    if ways.meet(marks, choice, changed):
                        found[node] = True
    return list(found)


class LoopsTest(unittest.TestCase):
    def test_nothing_is_changed_while_it_is_walked(self):
        found = [where(module, node) for module, tree in TREES.items() for node in changed_while_walked(tree)]
        self.assertEqual(found, [])

    def found(self, rows, many):
        text = "def f(xs, ys, c, box):\n" + "\n".join(f" {row}" for row in rows.split("\n"))
        self.assertEqual(len(changed_while_walked(ast.parse(text))), many, text)

    def test_what_is_changed_by_its_name(self):
        for rows, many in (
                ("for x in xs:\n xs.append(x)", 1), ("for x in xs:\n ys.append(x)", 0), ("for x in list(xs):\n xs.append(x)", 0),
                ("for x in enumerate(xs):\n if c:\n  xs.pop()\n  return 1", 1), ("for x in zip(ys, xs):\n del xs[0]", 1),
                ("for x in xs.items():\n xs[x] = 1", 1), ("for x in reversed(xs):\n xs += [x]", 1), ("for x in xs:\n for y in ys:\n  xs.add(y)", 1),
                ("for x in box.rows:\n box.rows.append(x)", 1), ("for x in box.rows:\n c.rows.append(x)", 1), ("for x in box.rows:\n box.lines.append(x)", 0),
                ("for x in xs[c]:\n xs[c].append(x)", 1), ("for x in xs[:2]:\n xs.append(x)", 0), ("for x in xs[0]:\n xs.append(x)", 0),
                ("return [xs.pop() for x in xs]", 1), ("return [x for x in xs for y in ys if xs.pop()]", 1), ("return {x: ys.pop() for x in xs}", 0),
                ("for x in sorted(xs):\n xs.pop()", 0)):
            self.found(rows, many)

    def test_what_has_two_names(self):
        """A list that is assigned elsewhere in the function to the name that the loop goes over."""
        level = "level = [xs]\nwhile level:\n inside = []\n for part in level:\n  inside.extend(part)\n level = inside\nreturn ys"
        for rows, many in (
                (level, 1), (level.replace("level = inside", "level = list(inside)"), 0), (level.replace("level = inside", "level, c = inside, 1"), 1),
                (level.replace("level = inside", "c = level = inside"), 1), (level.replace("level = inside", "level = inside if c else ys"), 1),
                (level.replace("level = inside", "level = inside[1:]"), 0), (level.replace("level = inside", "c = inside\n level = c"), 1),
                (level.replace("inside.extend(part)", "inside[0] = part"), 1), (level.replace("inside.extend(part)", "inside += part"), 1),
                ("rows = box.rows\nfor x in rows:\n box.rows.append(x)", 1), ("box.rows = xs\nfor x in xs:\n box.rows.append(x)", 1),
                ("rows = xs[c]\nfor x in rows:\n xs[c].append(x)", 1), ("rows = list(xs)\nfor x in rows:\n xs.append(x)", 0),
                ("while rows := xs:\n for x in rows:\n  xs.pop()", 1), ("for x in xs:\n ys.append(x)\nxs = ys", 1)):
            self.found(rows, many)

    def test_what_is_a_choice(self):
        chosen = "parts = xs if c else ()\nfound = [1] if c else []\nfor x in parts:\n found.append(x)"
        for rows, many in (
                ("for x in xs if c else ys:\n ys.append(x)", 1), ("for x in xs or ys:\n xs.pop()", 1), ("for x in c and xs:\n xs.pop()", 1),
                ("for x in enumerate(xs or ys):\n ys.pop()", 1), ("for x in (xs or ys).items():\n ys[x] = 1", 1), ("for x in xs or ():\n ys.append(x)", 0),
                (chosen, 1), (chosen.replace("[1] if c else []", "[1]"), 0), (chosen.replace("xs if c else ()", "xs"), 0), (chosen.replace("[1] if c else []", "ys or [1]"), 1),
                (chosen.replace("in parts", "in (xs or ())"), 1), (chosen.replace("in parts", "in list(parts)"), 0),
                (chosen.replace("in parts", "in enumerate(parts)"), 1)):
            self.found(rows, many)


if __name__ == "__main__":
    unittest.main()
