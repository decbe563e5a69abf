import itertools
import random
import unittest

from letquay.cases import trees as module
from letquay.cases.trees import at_place, is_tree_of, taken, tree_of
from letquay.errors import InvalidBook, InvalidFace, InvalidOperation, InvalidPattern, InvalidTree, InvalidType, TooMany
from letquay.text.reader import read_pattern
from tests import case_tools
from tests.case_tools import (
    ANY, BOOK, BOOL, EXN, FACE, INT, PAIR, STRING, TREE, alternatives_in, cases, first_met, list_of, plain_alternatives,
    tuple_of, values)
from tests.odd import ODD
from tests.test_rows import BOOLS, rows_of, wide_pattern

FAIL = ("fail",)
NONE = ("row", 0, ())


def row(k, **bound):
    return ("row", k, tuple(sorted(bound.items())))


def nodes_of(tree):
    if tree[0] == "test":
        below = [t for _, t in tree[2]] + ([] if tree[3] is None else [tree[3]])
    else:
        below = [tree[3]] if tree[0] == "guard" else []
    return [tree] + [node for t in below for node in nodes_of(t)]


def depth_of(tree):
    if tree[0] == "test":
        below = [t for _, t in tree[2]] + ([] if tree[3] is None else [tree[3]])
    else:
        below = [tree[3]] if tree[0] == "guard" else []
    return 1 + max([depth_of(t) for t in below], default=0)


def wanted_of(v, rows, answers):
    """The row that is taken, and the places of what it binds."""
    for k, (p, guarded) in enumerate(rows):
        bound = first_met(v, p)
        if bound is not None and (not guarded or answers[k]):
            return k, tuple(sorted(bound.items()))
    return None, ()


def is_right_for(tree, found, rows):
    """Whether a tree leads all values to the row that is taken, by all answers."""
    for v in found:
        for answers in itertools.product((True, False), repeat=len(rows)):
            try:
                index, bound, _ = taken(tree, v, answers)
            except InvalidTree:
                return False
            if (index, bound) != wanted_of(v, rows, answers):
                return False
    return True


class TreeOfTest(unittest.TestCase):
    def test_constant(self):
        self.assertEqual(module.MAX_TREE, 2000)

    def test_right_for_all_values(self):
        for T, rows in cases(21, 250):
            tree = tree_of(BOOK, FACE, T, rows)
            self.assertTrue(is_tree_of(BOOK, FACE, T, rows, tree), (T, rows, tree))
            found = values(T, 2)
            rng = random.Random(1)
            self.assertTrue(is_right_for(tree, rng.sample(found, min(40, len(found))), rows), (T, rows, tree))

    def test_guards_and_bound_places(self):
        rows = rows_of("(x, 1) | (1, x) when", "(x, _) when", "_")
        tree = tree_of(BOOK, FACE, tuple_of(INT, INT), rows)
        for value, answers, index, bound in (
                (("tuple", (5, 1)), (True, True, False), 0, (("x", (0,)),)),
                (("tuple", (1, 1)), (True, True, False), 0, (("x", (0,)),)),
                (("tuple", (1, 5)), (True, True, False), 0, (("x", (1,)),)),
                (("tuple", (1, 1)), (False, True, False), 1, (("x", (0,)),)),
                (("tuple", (1, 1)), (False, False, False), 2, ())):
            self.assertEqual(taken(tree, value, answers)[:2], (index, bound))

    def test_six_alternatives_at_four_places(self):
        rng = random.Random(22)
        T = ("tuple", (INT,) * 4)
        for _ in range(300):
            rows = []
            for _ in range(6):
                p = ("tuple", tuple(rng.choice([ANY, ("int", rng.randrange(6))]) for _ in range(4)))
                rows.append((p, rng.random() < 0.3))
            tree = tree_of(BOOK, FACE, T, tuple(rows))
            self.assertLessEqual(depth_of(tree), 100)
            self.assertTrue(is_tree_of(BOOK, FACE, T, tuple(rows), tree))

    def test_bounds(self):
        # So many places that no tree can be small: each row looks at two of them.
        T = ("tuple", (BOOL,) * 24)
        rows = tuple((("tuple", tuple(read_pattern("True") if k in (n, 23 - n) else ANY for k in range(24))), False)
                     for n in range(12))
        with self.assertRaises(TooMany) as caught:
            tree_of(BOOK, FACE, T, rows)
        self.assertEqual(caught.exception.limit, 2000)
        long = ("tuple", (("int", 1),) * 250)
        tree = tree_of(BOOK, FACE, ("tuple", (INT,) * 250), ((long, False),))
        self.assertTrue(is_tree_of(BOOK, FACE, ("tuple", (INT,) * 250), ((long, False),), tree))
        # A table of many keys: 1998 rows are let, one more is too many.
        rows = rows_of("_")
        for many, good in ((1998, True), (1999, False)):
            tree = ("test", (), tuple((n, NONE) for n in range(many)), NONE)
            self.assertIs(is_tree_of(BOOK, FACE, INT, rows, tree), good)

    def test_errors(self):
        good = rows_of("x")
        for call, more in ((tree_of, ()), (is_tree_of, (FAIL,))):
            self.assertRaises(InvalidBook, call, 1, 2, 3, 4, *more)
            self.assertRaises(InvalidFace, call, BOOK, 2, 3, 4, *more)
            self.assertRaises(InvalidType, call, BOOK, FACE, 3, 4, *more)
            for rows in (*ODD, rows_of("True"), ((ANY, 0),)):
                self.assertRaises(InvalidPattern, call, BOOK, FACE, INT, rows, *more)
            self.assertRaises(TooMany, call, BOOK, FACE, INT, ((wide_pattern(65), False),), *more)
            call(BOOK, FACE, INT, good, *more)


class JudgeTest(unittest.TestCase):
    def check(self, T, texts, good, bad):
        rows = rows_of(*texts)
        for tree in good:
            self.assertIs(is_tree_of(BOOK, FACE, T, rows, tree), True, tree)
        for tree in bad:
            self.assertIs(is_tree_of(BOOK, FACE, T, rows, tree), False, tree)

    def test_any_value(self):
        for value in ODD:
            self.assertIs(is_tree_of(BOOK, FACE, INT, rows_of("x"), value), False)

    def test_rows_and_fails(self):
        self.check(INT, ("x",), (row(0, x=()),), (
            FAIL, NONE, row(0, y=()), row(0, x=(0,)), row(1, x=()), ("row", False, (("x", ()),)), ("row", 0, [("x", ())]),
            ("row", 0, (("x", ()), ("x", ()))), ("guard", 0, (("x", ()),), FAIL), ("row", 0), ("row", 0, (("x", ()),), 1),
            ("fail", 1), ("nothing",), ("test", (), (), None)))
        self.check(tuple_of(INT, INT), ("(x, y)",), (row(0, x=(0,), y=(1,)),), (
            row(0, x=(False,), y=(True,)), row(0, x=(1,), y=(0,)), ("row", 0, (("y", (1,)), ("x", (0,)))), row(0, x=(0,))))
        self.check(INT, ("1",), (("test", (), ((1, NONE),), FAIL), ("test", (), ((1, NONE), (2, FAIL)), FAIL)),
                   (NONE, FAIL, ("test", (), ((1, FAIL),), FAIL), ("test", (), ((1, NONE),), NONE),
                    ("test", (), ((1, NONE),), None), ("test", (), ((True, NONE),), FAIL), ("test", (), (("1", NONE),), FAIL),
                    ("test", (), ((1, NONE), (1, NONE)), FAIL), ("test", (0,), ((1, NONE),), FAIL),
                    ("test", (), [(1, NONE)], FAIL), ("test", [], ((1, NONE),), FAIL), ("test", (), ((1, NONE, 1),), FAIL),
                    ("test", (), ((2 ** 62, FAIL), (1, NONE)), FAIL)))

    def test_places_asked_once(self):
        once = ("test", (), ((1, NONE),), FAIL)
        self.check(INT, ("1",), (), (("test", (), ((2, FAIL),), once), ("test", (), ((1, once),), FAIL),
                                     ("test", (), (), once)))
        self.check(INT, ("_",), (NONE, ("test", (), (), NONE), ("test", (), ((5, NONE),), NONE)),
                   (("test", (), ((5, NONE),), None), ("test", (), (), ("test", (), (), NONE))))

    def test_constructors(self):
        yes, both = ("True", NONE), (("True", NONE), ("False", FAIL))
        self.check(BOOL, ("True",), (("test", (), both, None), ("test", (), both[::-1], None), ("test", (), (yes,), FAIL),
                                     ("test", (), (("False", FAIL),), NONE), ("test", (), both, NONE),
                                     ("test", (), both, ("test", (9,), ((None, FAIL),), None)),
                                     ("test", (), both, ("guard", 0, None, FAIL))),
                   (("test", (), (yes,), None), ("test", (), (yes, ("Nil", FAIL)), FAIL), ("test", (), both, ("fail", 1)),
                    ("test", (), both, ("row", 1, ())), ("test", (), both, ("row", 0)), ("test", (), both, ("what",)),
                    ("test", (), both, ("test", (), ((1,),), None)), ("test", (), both, ("guard", 0, ())),
                    ("test", (), ((("True",), NONE), ("False", FAIL)), None), ("test", (), (yes, yes), FAIL)))

    def test_below_constructors(self):
        T = ("made", PAIR, (INT, INT))
        found = ("test", ("Pair", 0), ((1, NONE),), FAIL)
        self.check(T, ("Pair (1, _)",), (("test", (), (("Pair", found),), None), ("test", (), (("Pair", found),), FAIL)),
                   (found, ("test", (), (), found), ("test", (), (("Pair", ("test", ("Pair",), (), NONE)),), None)))
        self.check(T, ("Pair (x, _)",), (("test", (), (("Pair", row(0, x=("Pair", 0))),), None), row(0, x=("Pair", 0))),
                   (row(0, x=("Pair", 1)), row(0, x=("Pair",))))
        deep = ("test", ("Cons", 0), ((1, NONE),), FAIL)
        self.check(list_of(INT), ("1 :: _",), (
            ("test", (), (("Cons", deep), ("Nil", FAIL)), None), ("test", (), (("Cons", deep),), FAIL)),
            (("test", (), (("Nil", FAIL),), deep), ("test", (), (("Nil", deep), ("Cons", deep)), None)))

    def test_exceptions(self):
        div, end = (("Div",), NONE), (("End",), ("row", 1, ()))
        again = ("test", (), (end,), FAIL)
        self.check(EXN, ("Div", "End"), (
            ("test", (), (div, end), FAIL), ("test", (), (div,), again), ("test", (), (end,), ("test", (), (div,), FAIL)),
            ("test", (), (div, (("S", "Div"), FAIL)), again), ("test", (), (("Div",), NONE) and (div,), again),
            ("test", (), ((("Div",), ("test", (), (end,), NONE)),), again),
            ("test", (), ((("Div",), ("test", (), ((("End",), FAIL),), NONE)),), again)),
            (("test", (), (div, end), None), ("test", (), (div,), ("test", (), (div, end), FAIL)),
             ("test", (), ((("Nope",), FAIL), div, end), FAIL), ("test", (), (("Div", NONE), end), FAIL),
             ("test", (), ((("S", "Div"), NONE), div, end), FAIL), ("test", (), ((("True",), FAIL), div, end), FAIL),
             ("test", (), ((("Div",), ("test", (), (div,), NONE)),), again), ("test", (), (div, div, end), FAIL)))
        under = ("test", (("Fail",),), (("a", NONE),), FAIL)
        self.check(EXN, ("Fail \"a\"",), (("test", (), ((("Fail",), under),), FAIL),), (
            under, ("test", (), ((("S", "Fail"), under),), FAIL),
            ("test", (), ((("Fail",), ("test", ("Fail",), (("a", NONE),), FAIL)),), FAIL)))
        self.check(EXN, ("Fail x",), (("test", (), ((("Fail",), row(0, x=(("Fail",),))),), FAIL),),
                   (("test", (), ((("Fail",), row(0, x=("Fail",))),), FAIL),))

    def test_what_cannot_be_asked(self):
        for T in (tuple_of(INT, INT), ("var", 0), ("fn", INT, INT), ("made", 6, (INT,)), ("tuple", ())):
            self.check(T, ("_",), (NONE,), (("test", (), (), NONE), ("test", (), ((1, NONE),), NONE)))

    def test_guards(self):
        guard = ("guard", 0, (("x", ()),), row(1, y=()))
        self.check(INT, ("x when", "y"), (guard,), (
            row(1, y=()), ("guard", 0, (), row(1, y=())), ("guard", 0, (("x", ()),), FAIL), ("guard", 1, (("y", ()),), FAIL),
            ("guard", 0, (("x", ()),), guard), ("row", 0, (("x", ()),)), ("guard", 0, (("x", ()),))))
        self.check(INT, ("1 when", "2 when", "_"), (
            ("test", (), ((1, ("guard", 0, (), row(2))), (2, ("guard", 1, (), row(2)))), row(2)),),
            (("guard", 0, (), ("guard", 1, (), row(2))), ("test", (), ((1, ("guard", 0, (), row(2))), (2, row(2))), row(2)),
             ("test", (), ((1, ("guard", 0, (), ("guard", 1, (), row(2)))), (2, ("guard", 1, (), row(2)))), row(2))))

    def test_alternatives_that_need_no_test(self):
        # All alternatives together meet everything, and bind the same places.
        yes, no = read_pattern("True"), read_pattern("False")
        rows = ((("tuple", (("or", yes, no), ("name", "x"))), False),)
        self.assertTrue(is_tree_of(BOOK, FACE, BOOLS, rows, row(0, x=(1,))))
        rows = rows_of("(True, x) | (x, _)")
        self.assertFalse(is_tree_of(BOOK, FACE, BOOLS, rows, row(0, x=(0,))))
        good = ("test", (0,), (("True", row(0, x=(1,))),), row(0, x=(0,)))
        self.assertTrue(is_tree_of(BOOK, FACE, BOOLS, rows, good))
        rows = rows_of("(True, _)", "(False, _)")
        self.assertTrue(is_tree_of(BOOK, FACE, BOOLS, rows, ("test", (0,), (("True", NONE),), ("row", 1, ()))))
        self.assertTrue(is_tree_of(BOOK, FACE, BOOLS, rows, (
            "test", (1,), (("True", ("test", (0,), (("True", NONE),), ("row", 1, ()))),),
            ("test", (0,), (("False", ("row", 1, ())),), NONE))))

    def test_near_trees(self):
        rng = random.Random(23)
        for T, rows in cases(24, 150, 3):
            if T in (list_of(list_of(BOOL)), ("made", TREE, (BOOL,))) or alternatives_in(rows) > 12:
                continue
            found = values(T, 2)
            if len(found) > 120:
                continue
            tree = tree_of(BOOK, FACE, T, rows)
            for _ in range(6):
                near = self.changed(rng, tree, len(rows))
                self.assertIs(is_tree_of(BOOK, FACE, T, rows, near), is_right_for(near, found, rows), (T, rows, near))

    def changed(self, rng, tree, many):
        """A tree in which one leaf is another one, or a guard is left out."""
        at = rng.randrange(len(nodes_of(tree)))
        leaves = [node for node in nodes_of(tree) if node[0] in ("fail", "row")]
        new = rng.choice(leaves + [FAIL, ("row", rng.randrange(many), ())])

        def go(node):
            nonlocal at
            at -= 1
            if at == -1 and node[0] != "test":
                return node[3] if node[0] == "guard" and rng.random() < 0.5 else new
            if node[0] == "guard":
                return (*node[:3], go(node[3]))
            if node[0] == "test":
                table = tuple((key, go(t)) for key, t in node[2])
                return (*node[:2], table, None if node[3] is None else go(node[3]))
            return node
        return go(tree)


class Wandering:
    """Makes trees for rows that ask at random, until all values that are left come to the same row and binding."""

    def __init__(self, rng, T, rows):
        self.rng, self.T, self.rows = rng, T, rows
        self.known = {}

    def things(self, v, T, at, known):
        """The triples (place, type, key) of what can be asked of a value, below what is known."""
        if T[0] == "tuple":
            return [t for k, (w, U) in enumerate(zip(v[1], T[1])) for t in self.things(w, U, (*at, k), known)]
        if T in (INT, STRING):
            return [(at, T, v)]
        if T[0] != "made" or v == ("thing",) and T != EXN:
            return []
        key = None if v == ("thing",) else v[1]
        found = [(at, T, key)]
        if key is not None and v[2] is not None and known.get(at) == key:
            inner = FACE.tag(key)[1] if T == EXN else dict(case_tools.constructors(T))[key]
            found += self.things(v[2], inner, (*at, key), known)
        return found

    def trace(self, v, start):
        """What a value comes to from a row on: the index, whether it is guarded, and what is bound."""
        for k, (p, guarded) in enumerate(self.rows[start:], start):
            bound = first_met(v, p)
            if bound is not None:
                return k, guarded, tuple(sorted(bound.items()))
        return None

    def tree(self, found, start=0, known=None, asked=()):
        known = known or {}
        traces = {self.trace(v, start) for v in found}
        places = {(at, T) for v in found for at, T, _ in self.things(v, self.T, (), known) if at not in asked}
        if len(traces) == 1 and (not places or self.rng.random() < 0.7):
            trace = traces.pop()
            if trace is None:
                return ("fail",)
            if trace[1]:
                return ("guard", trace[0], trace[2], self.tree(found, trace[0] + 1, known, asked))
            return ("row", trace[0], trace[2])
        return self.test(found, start, known, asked, *self.rng.choice(sorted(places, key=repr)))

    def test(self, found, start, known, asked, at, T):
        by_key = {}
        for v in found:
            own = [key for place, _, key in self.things(v, self.T, (), known) if place == at]
            by_key.setdefault(own[0], []).append(v)
        every = {INT: (0, 1, 2), STRING: ("", "a", "b")}.get(T) or (
            case_tools.EXCEPTIONS if T == EXN else [name for name, _ in case_tools.constructors(T)])
        keys = [key for key in every if key in by_key]
        self.rng.shuffle(keys)
        table = tuple((key, self.tree(by_key[key], start, {**known, at: key}, (*asked, at))) for key in keys)
        left = [v for key in by_key if key not in keys for v in by_key[key]]
        whole = T not in (INT, STRING, EXN) and len(keys) == len(every)
        if left:
            return ("test", at, table, self.tree(left, start, known, (*asked, at)))
        # No value leads there: anything that looks like a tree can stand there.
        return ("test", at, table, None if whole else ("fail",)) if whole else None


class WanderingTest(unittest.TestCase):
    TYPES = (INT, BOOLS, tuple_of(INT, BOOL), EXN, tuple_of(EXN, BOOL), ("made", PAIR, (BOOL, INT)), tuple_of(BOOL, ("made", PAIR, (BOOL, BOOL))))

    def test_all_right_trees_are_accepted(self):
        rng = random.Random(31)
        many = 0
        for _ in range(250):
            T = rng.choice(self.TYPES)
            rows = case_tools.random_rows(rng, T, 3)
            if alternatives_in(rows) > 64:
                continue
            found = values(T, 1)
            tree = Wandering(rng, T, rows).tree(found)
            if "None" in repr(tree).replace(", None)", ""):
                continue
            many += 1
            self.assertTrue(is_right_for(tree, found, rows))
            self.assertTrue(is_tree_of(BOOK, FACE, T, rows, tree), (T, rows, tree))
            for _ in range(4):
                near = JudgeTest.changed(self, rng, tree, len(rows))
                self.assertIs(is_tree_of(BOOK, FACE, T, rows, near), is_right_for(near, found, rows), (T, rows, near))
        self.assertGreater(many, 150)


class TakenTest(unittest.TestCase):
    TREE = ("test", (0,), ((1, ("guard", 1, (("x", (1,)),), row(0))),), ("test", (1, "Cons", 0), ((2, row(2)),), FAIL))

    def test_answers(self):
        nil = ("con", "Nil", None)
        full = ("con", "Cons", ("tuple", (2, nil)))
        self.assertEqual(taken(self.TREE, ("tuple", (1, nil)), (False, True)), (1, (("x", (1,)),), ((0,),)))
        self.assertEqual(taken(self.TREE, ("tuple", (1, nil)), (True, False)), (0, (), ((0,),)))
        self.assertEqual(taken(self.TREE, ("tuple", (3, full)), ()), (2, (), ((0,), (1, "Cons", 0))))
        other = ("con", "Cons", ("tuple", (5, nil)))
        self.assertEqual(taken(self.TREE, ("tuple", (3, other)), ()), (None, (), ((0,), (1, "Cons", 0))))
        by_path = ("test", (), ((("Div",), row(0)),), FAIL)
        self.assertEqual(taken(by_path, ("exn", ("Div",), None), ())[0], 0)
        self.assertEqual(taken(by_path, ("thing",), ())[0], None)
        self.assertEqual(taken(("test", (), (("a", row(0)),), FAIL), "a", ())[0], 0)

    def test_errors_in_order(self):
        nil = ("con", "Nil", None)
        for value in (nil, ("tuple", (3, nil)), ("tuple", ()), 5, None, True, ("tuple", (True, nil)), ("tuple", (("fn",), nil))):
            self.assertRaises(InvalidTree, taken, self.TREE, value, (True, True))
        self.assertRaises(InvalidOperation, taken, self.TREE, ("tuple", (1, nil)), (True,))
        self.assertRaises(InvalidOperation, taken, self.TREE, ("tuple", (1, nil)), ())
        for answers in (None, 1, [True], (1,), (None,), "a"):
            self.assertRaises(InvalidOperation, taken, self.TREE, nil, answers)
        self.assertRaises(InvalidTree, taken, ("test", (), (("True", FAIL),), None), ("con", "False", None), ())
        for tree in (*ODD, ("fail", 1), ("row", -1, ()), ("row", True, ()), ("row", 0, (("x", (-1,)),)), ("row", 0, (("X", ()),)),
                     ("row", 0, (("y", ()), ("x", ()))), ("row", 0, (("x", ("a",)),)), ("guard", 0, (), None),
                     ("test", (), ((None, FAIL),), FAIL), ("test", (), ((True, FAIL),), FAIL), ("test", 0, (), FAIL),
                     ("test", ((),), (), FAIL), ("test", (), [], FAIL), ("test", (), ((1, FAIL, 1),), FAIL),
                     ("test", (), ((1, FAIL),), ("test",))):
            self.assertRaises(InvalidTree, taken, tree, 1, None)

    def test_at_place(self):
        value = ("tuple", (("con", "A", 5), ("exn", ("S", "E"), ("tuple", (1, 2)))))
        for place, found in (((), value), ((0, "A"), 5), ((1, ("S", "E"), 1), 2), ((0,), ("con", "A", 5))):
            self.assertEqual(at_place(value, place), found)
        for place in ((2,), (0, "B"), (0, ("A",)), (1, "E"), (1, ("E",)), (0, "A", 0), (True,), (-1,), [0], None, 1, ((),), (None,),
                      ("a",)):
            self.assertRaises(InvalidOperation, at_place, value, place)
        self.assertRaises(InvalidOperation, at_place, ("con", "A", None), ("A",))
        for value in ODD:
            self.assertEqual(at_place(value, ()), value)
            self.assertRaises(InvalidOperation, at_place, value, ("A",))

    def test_alternatives_of_the_tools(self):
        self.assertEqual(len(plain_alternatives(read_pattern("(1 | 2, 3 | 4)"))), 4)
        self.assertEqual(len(values(STRING, 1)), 4)


if __name__ == "__main__":
    unittest.main()
