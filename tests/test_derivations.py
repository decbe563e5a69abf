import random
import unittest

from letquay.data.faces import Face
from letquay.errors import InvalidBook, InvalidFace, InvalidTree, Refused, TooMany
from letquay.infer.declarations import is_derivation_of, typed_values
from letquay.infer.derivations import is_derivation
from letquay.infer.expressions import typed
from letquay.text.reader import read_declaration, read_expression, read_type
from letquay.text.trees import is_declaration, is_expression
from letquay.types.books import Book
from letquay.types.schemes import Scheme
from tests.derivation_tools import is_right, rename
from tests.infer_tools import (
    BOOK, BOOL, FACE, INT, STRING, UNIT, fn, list_of, random_expressions, ref_of, tuple_of, var)
from tests.odd import ODD
from tests.typing_tools import sized


def right(text, value):
    return is_derivation(BOOK, FACE, read_expression(text), value)


def changed(value, place, **new):
    """A derivation with another type, or more, in one row."""
    rows, marked = value
    return tuple((at, new.get("T", T), new.get("more", more)) if at == place else (at, T, more) for at, T, more in rows), marked


def told(text):
    return typed(BOOK, FACE, read_expression(text)).derivation


class ToldTest(unittest.TestCase):
    def test_forms(self):
        a, b, c = var(0), var(1), var(2)
        for text, rows, marked in (
                ("1", [((), INT, ())], ()), ("[]", [((), list_of(a), (a,))], ()),
                ("Stop", [((), ("made", 4, ()), ())], ()), ("id", [((), fn(a, a), (a,))], ()),
                ("duo", [((), fn(a, fn(b, tuple_of(a, b))), (a, b))], (1,)),
                ("Pair", [((), fn(tuple_of(a, ref_of(b)), ("made", 10, (a, b))), (a, b))], ()),
                ("fn x => x end", [((), fn(a, a), ()), ((1, 0, 0), a, ()), ((1, 0, 2), a, ())], ()),
                ("raise Stop", [((), a, ()), ((1,), ("made", 4, ()), ())], ()),
                ("(fn _ => 1 end) = id", None, None),
                ("let f = fn x => x end in (f, f 1) end", [
                    ((), tuple_of(fn(a, a), INT), (1,)), ((1,), fn(b, b), ()), ((2,), fn(b, b), ()), ((2, 1, 0, 0), b, ()),
                    ((2, 1, 0, 2), b, ()), ((3,), tuple_of(fn(a, a), INT), ()), ((3, 1, 0), fn(a, a), (a,)), ((3, 1, 1), INT, ()),
                    ((3, 1, 1, 1), fn(INT, INT), (INT,)), ((3, 1, 1, 2), INT, ())], ()),
                ("let rec f = fn x => f x end in 1 end", [
                    ((), INT, (0, 1)), ((1, 0, 1, 0, 0), a, ()), ((1, 0, 1, 0, 2), b, ()), ((1, 0, 1, 0, 2, 1), fn(a, b), ()),
                    ((1, 0, 1, 0, 2, 2), a, ()), ((2,), INT, ())], ()),
                ("let (x, y) = ([], id) in (y, x) end", [
                    ((), tuple_of(fn(a, a), list_of(b)), (2, 3)),
                    ((1,), tuple_of(list_of(c), fn(var(3), var(3))), ()), ((1, 1, 0), list_of(c), ()),
                    ((1, 1, 1), fn(var(3), var(3)), ()), ((2,), tuple_of(list_of(c), fn(var(3), var(3))), ()),
                    ((2, 1, 0), list_of(c), (c,)), ((2, 1, 1), fn(var(3), var(3)), (var(3),)),
                    ((3,), tuple_of(fn(a, a), list_of(b)), ()), ((3, 1, 0), fn(a, a), (a,)), ((3, 1, 1), list_of(b), (b,))], ())):
            if rows is None:
                self.assertRaises(Refused, told, text)
                continue
            self.assertEqual(told(text), (tuple(rows), marked), text)
            self.assertTrue(right(text, (tuple(rows), marked)))

    def test_order_of_what_is_put_in(self):
        # The numbers of the derivation count, not those of the demands: here y's variable is the first that stands.
        rows, _ = told("let f = fn x => fn y => (y, x) end end in f end")
        found = {place: (T, more) for place, T, more in rows}
        general, (T, more) = found[()][1], found[(3,)]
        body = found[(1,)][0]
        self.assertEqual(len(general), 2)
        self.assertEqual(T, rename(body, dict(zip(general, more))))
        for tree in random_expressions(51, 600, 4):
            try:
                rows, marked = typed(BOOK, FACE, tree).derivation
            except Refused:
                continue
            self.assertTrue(is_right(tree, rows, marked), tree)


class JudgeTest(unittest.TestCase):
    def test_near_derivations(self):
        a = var(0)
        text = "let f = fn x => x end in (f, f 1) end"
        good = told(text)
        rows, marked = good
        for value in (good, (rows, (0,)), (rows, (5,)), (tuple((p, rename(T, {0: var(9)}), tuple(
                rename(U, {0: var(9)}) if isinstance(U, tuple) else U for U in more)) for p, T, more in rows), ())):
            self.assertIs(right(text, value), True)
        for value in (
                (rows, [0]), (rows, (1, 0)), (rows, (True,)), (rows, (-1,)), (rows, None), (list(rows), marked), (rows,),
                (rows, marked, 1), (rows[1:], marked), (rows[:-1], marked), (rows + rows[-1:], marked), (rows[::-1], marked),
                (rows[:1] + rows, marked), (rows[:1] + rows[2:3] + rows[1:2] + rows[3:], marked),
                (rows + (((4,), INT, ()),), marked), changed(good, (), more=()), changed(good, (), more=(0, 1)),
                changed(good, (), more=(1, 1)), changed(good, (), more=[1]), changed(good, (), more=(True,)),
                changed(good, (), more=(a,)), changed(good, (1,), more=(a,)), changed(good, (1,), more=None),
                changed(good, (3, 1, 0), more=()), changed(good, (3, 1, 0), more=(a, a)), changed(good, (3, 1, 0), more=(INT,)),
                changed(good, (3, 1, 0), more=(1,)), changed(good, (3, 1, 0), more=[a]), changed(good, (2,), T=fn(INT, INT)),
                changed(good, (2,), T=None), changed(good, (3, 1, 1), T=STRING), changed(good, (3, 1, 1), T=("var", True)),
                changed(good, (1,), T=["fn", a, a]), tuple([(p[:1] and p, T, m) for p, T, m in rows[:1]] + [1])):
            self.assertIs(right(text, value), False, value)
        for row in rows:
            other = tuple((list(p), T, m) if (p, T, m) == row else (p, T, m) for p, T, m in rows)
            self.assertIs(right(text, (other, marked)), False)
        self.assertIs(right(text, (tuple((*row, 1) for row in rows), marked)), False)
        places = tuple((tuple(bool(n) if n < 2 else n for n in p), T, m) for p, T, m in rows)
        self.assertIs(right(text, (places, marked)), False)

    def test_any_value(self):
        for value in (*ODD, *[(value, ()) for value in ODD], *[((value,), ()) for value in ODD],
                      *[((((), value, ()),), ()) for value in ODD], *[((((), INT, value),), ()) for value in ODD]):
            if value != ((((), INT, ()),), ()):
                self.assertIs(right("1", value), False, value)

    def test_not_most_general(self):
        for text, images, good in (
                ("fn x => x end", {0: INT}, True), ("fn x => x end", {0: fn(var(3), var(7))}, True),
                ("fn x => x = x end", {0: INT}, True), ("fn x => x = x end", {0: fn(INT, INT)}, False),
                ("fn x => x = x end", {0: var(4)}, False), ("same", {0: list_of(BOOL)}, True), ("same", {0: ("made", 7, ())}, False),
                ("let x = [] in 1 end", {0: INT}, False), ("let rec f = fn x => raise Stop end in 1 end", {0: INT}, False)):
            rows, _ = told(text)
            value = tuple((p, rename(T, images), tuple(rename(U, images) if isinstance(U, tuple) else U for U in more))
                          for p, T, more in rows), ()
            self.assertIs(right(text, value), good, text)
        # Fewer variables are generalized, or none.
        rows, _ = told("let x = [] in 1 end")
        put = tuple((p, rename(T, {0: INT}), tuple(rename(U, {0: INT}) for U in more if isinstance(U, tuple))) for p, T, more in rows)
        self.assertIs(right("let x = [] in 1 end", (put, ())), True)
        rows, _ = told("let (x, y) = ([], []) in 1 end")
        self.assertIs(right("let (x, y) = ([], []) in 1 end", ((((), INT, (0,)), *rows[1:]), ())), True)
        self.assertIs(right("let (x, y) = ([], []) in 1 end", ((((), INT, ()), *rows[1:]), ())), True)
        self.assertIs(right("let (x, y) = ([], []) in 1 end", ((((), INT, (0, 1, 2)), *rows[1:]), ())), False)

    def test_what_can_be_generalized(self):
        # The variable of x stands in the type of a local name that can be seen.
        text = "fn x => let y = x in y end end"
        rows, marked = told(text)
        found = dict((p, more) for p, _, more in rows)
        self.assertEqual(found[(1, 0, 2)], ())
        value = changed(changed((rows, marked), (1, 0, 2), more=(0,)), (1, 0, 2, 3), more=(var(0),))
        self.assertIs(right(text, value), False)
        # It does not matter for what is not final that nothing else has it.
        text = "let y = ref [] in 1 end"
        self.assertIs(right(text, changed(told(text), (), more=(0,))), False)
        # A name that is generalized in a variable does not keep it from being generalized again.
        text = "let x = [] in let y = x in y end end"
        rows = tuple((p, list_of(var(0)), {(): (0,), (3,): (0,)}.get(p, (var(0),) if p in ((2,), (3, 2), (3, 3)) else ()))
                     for p, _, _ in told(text)[0])
        self.assertIs(right(text, (rows, ())), True)

    def test_marked_variables_that_are_put_in(self):
        text = "let f = fn x => x = x end in f 1 end"
        rows, marked = told(text)
        self.assertEqual(marked, (0,))
        self.assertIs(right(text, (rows, ())), False)
        text = "let f = fn x => x end in f id end"
        rows, _ = told(text)
        general = dict((p, more) for p, _, more in rows)[()]
        self.assertIs(right(text, (rows, ())), True)
        # If the generalized variable were marked, a function could not be put in.
        self.assertIs(right(text, (rows, general)), False)

    def test_sizes(self):
        text = "fn x => 1 end"
        for size, good in ((298, True), (299, False)):
            rows = (((), fn(sized(size), INT), ()), ((1, 0, 0), sized(size), ()), ((1, 0, 2), INT, ()))
            self.assertIs(right(text, (rows, ())), good)

    def test_against_a_second_judge(self):
        rng = random.Random(52)
        types = [INT, BOOL, var(0), var(1), fn(INT, INT), list_of(var(0)), UNIT, list_of(INT), fn(var(0), var(0))]
        many = 0
        for tree in random_expressions(53, 1500, 3):
            try:
                rows, marked = typed(BOOK, FACE, tree).derivation
            except Refused:
                continue
            for _ in range(12):
                rows_now, marked_now = list(rows), marked
                for _ in range(rng.choice((1, 1, 2))):
                    k = rng.randrange(len(rows_now))
                    place, T, more = rows_now[k]
                    which = rng.randrange(5)
                    if which == 0:
                        rows_now[k] = (place, rng.choice(types), more)
                    elif which == 1 and more and isinstance(more[0], tuple):
                        n = rng.randrange(len(more))
                        rows_now[k] = (place, T, (*more[:n], rng.choice(types), *more[n + 1:]))
                    elif which == 2:
                        more = rng.choice([(), more[:-1], (*more, 0), (0,), (0, 1), (1,)]) if not more or isinstance(
                            more[0], int) else more[:-1]
                        rows_now[k] = (place, T, more)
                    elif which == 3:
                        marked_now = rng.choice([(), (0,), (1,), (0, 1), (0, 1, 2, 3)])
                    else:
                        images = {rng.randrange(3): rng.choice(types)}
                        rows_now = [(p, rename(U, images), tuple(rename(V, images) if isinstance(V, tuple) else V for V in m))
                                    for p, U, m in rows_now]
                value = (tuple(rows_now), marked_now)
                wanted = self.second(tree, *value)
                many += wanted
                self.assertIs(is_derivation(BOOK, FACE, tree, value), wanted, (tree, value))
        self.assertGreater(many, 300)

    @staticmethod
    def second(tree, rows, marked):
        for _, _, more in rows:
            if any(isinstance(entry, int) for entry in more) and any(isinstance(entry, tuple) for entry in more):
                return False
        try:
            return is_right(tree, rows, marked)
        except TypeError:
            # Numbers stand where types do.
            return False

    def test_arguments(self):
        tree = read_expression("1")
        self.assertRaises(InvalidBook, is_derivation, None, None, None, None)
        self.assertRaises(InvalidFace, is_derivation, BOOK, None, None, None)
        self.assertRaises(InvalidFace, is_derivation, Book(), FACE, None, None)
        for value in ODD:
            if not is_expression(value):
                self.assertRaises(InvalidTree, is_derivation, BOOK, FACE, value, None)
        with self.assertRaises(Refused) as caught:
            is_derivation(BOOK, FACE, read_expression("fn x => y end"), None)
        self.assertEqual(caught.exception.reason, ("unbound", (1, 0, 2), ("y",)))
        wide = ("typed", ("int", 1), ("tuple", (read_type("int"),) * 300))
        self.assertRaises(TooMany, is_derivation, BOOK, FACE, wide, None)
        # What cannot be typed has no derivation, but no error either.
        self.assertIs(is_derivation(BOOK, FACE, read_expression("1 2"), told("id 1")), False)
        self.assertIs(is_derivation(BOOK, Face(), tree, ((((), INT, ()),), ())), True)


def values_of(text):
    return typed_values(BOOK, FACE, read_declaration(text))


class DeclarationsTest(unittest.TestCase):
    def schemes(self, text):
        return {name: scheme.text(BOOK) for name, scheme in values_of(text).names.items()}

    def reason(self, text):
        with self.assertRaises(Refused) as caught:
            values_of(text)
        return caught.exception.reason

    def test_names(self):
        for text, names in (
                ("val x = 1", {"x": "int"}), ("val id = fn x => x end", {"id": "'a -> 'a"}), ("val 1 = 2", {}), ("val _ = ref []", {}),
                ("val (b, a) = (1, \"a\")", {"a": "string", "b": "int"}), ("val x = 1 + 2", {"x": "int"}),
                ("val p as (x, _) = (id, same)", {"p": "('a -> 'a) * (''b -> ''b -> bool)", "x": "'a -> 'a"}),
                ("val rec f = fn x => g x end and g = fn y => f y end", {"f": "'a -> 'b", "g": "'a -> 'b"}),
                ("val rec f = fn 0 => 1 | n => n * f (n - 1) end", {"f": "int -> int"}), ("val f = same", {"f": "''a -> ''a -> bool"}),
                ("val (x, _) | (_, x) = (1, 2)", {"x": "int"})):
            found = values_of(text)
            self.assertEqual(self.schemes(text), names, text)
            self.assertEqual(list(found.names), sorted(names))
            self.assertIs(found.scheme, None)
            self.assertIs(is_derivation_of(BOOK, FACE, read_declaration(text), found.derivation), True)
        found = values_of("val x = 1").names
        self.assertEqual(found, {"x": Scheme(BOOK, (), INT)})

    def test_derivations_and_bodies(self):
        a = var(0)
        found = values_of("val f = fn x => x end")
        self.assertEqual(found.derivation, ((((1,), fn(a, a), ()), ((2,), fn(a, a), ()), ((2, 1, 0, 0), a, ()), ((2, 1, 0, 2), a, ())), ()))
        self.assertEqual((found.body, str(found), found.marked), (fn(a, a), "'a -> 'a", ()))
        self.assertEqual(found.cases, (((), fn(a, a), ((("name", "f"), False),)), ((2,), a, ((("name", "x"), False),))))
        found = values_of("val rec g = fn x => 1 end and f = fn y => y end")
        self.assertEqual([row[0] for row in found.derivation[0]], [
            (1, 0, 1, 0, 0), (1, 0, 1, 0, 2), (1, 1, 1, 0, 0), (1, 1, 1, 0, 2)])
        self.assertEqual((found.body, list(found.names)), (fn(a, INT), ["f", "g"]))
        self.assertEqual([place for place, _, _ in found.cases], [(1, 0), (1, 1)])
        found = values_of("val (x, f) = (1, fn y => y = y end)")
        self.assertEqual((found.body, found.marked), (tuple_of(INT, fn(a, BOOL)), (0,)))
        self.assertEqual(found, values_of("val (x, f) = (1, fn y => y = y end)"))
        self.assertNotEqual(values_of("val x = 1"), values_of("val y = 1"))

    def test_open_names(self):
        for text, name in (
                ("val x = ref []", "x"), ("val f = id id", "f"), ("val (y, x) = (ref [], ref [])", "y"), ("val (x, y) = (1, ref [])", "y"),
                ("val z as (y, x) = (id id, 1)", "z"), ("val (_, b as c) = (1, id id)", "b"), ("val (x, y) = if True then (1, []) else (2, [])",
                                                                                              "y")):
            self.assertEqual(self.reason(text), ("open", (1,), name))
        for text, word in (("val x = (ref [], 1 2)", "clash"), ("val x = (ref [], a)", "unbound"), ("val (x, 1) = (ref [], \"a\")", "clash"),
                           ("val rec f = fn x => x x end", "endless"), ("val x = id = id", "unequal")):
            self.assertEqual(self.reason(text)[0], word)
        self.assertEqual(self.reason("val No = a"), ("unbound", (1,), ("No",)))
        self.assertEqual(self.reason("val rec f = fn No => 1 end"), ("unbound", (1, 0, 1, 0, 0), ("No",)))
        # Sizes come ahead of names that are open.
        big = FACE.with_value("big", Scheme(BOOK, (), sized(299)))
        with self.assertRaises(TooMany):
            typed_values(BOOK, big, read_declaration("val x = (ref [], big)"))
        with self.assertRaises(TooMany):
            typed_values(BOOK, big, read_declaration("val rec f = fn x => big end"))

    def test_near_derivations(self):
        tree = read_declaration("val f = fn x => x end")
        rows, marked = values_of("val f = fn x => x end").derivation
        put = tuple((p, rename(T, {0: INT}), ()) for p, T, _ in rows)
        for value, good in (
                ((rows, marked), True), ((put, ()), True), ((rows[1:], ()), False), ((rows + rows[-1:], ()), False),
                (((((), fn(var(0), var(0)), (0,)), *rows), ()), False), ((rows[::-1], ()), False), ((rows, (0,)), True), ((rows, [0]), False)):
            self.assertIs(is_derivation_of(BOOK, FACE, tree, value), good, value)
        # What is refused as open has derivations without variables.
        tree = read_declaration("val x = ref []")
        rows = (((1,), ref_of(list_of(INT)), ()), ((2,), ref_of(list_of(INT)), ()), ((2, 2, 0), list_of(INT), (INT,)))
        self.assertIs(is_derivation_of(BOOK, FACE, tree, (rows, ())), True)
        other = tuple((p, ref_of(list_of(var(0))) if T != list_of(INT) else list_of(var(0)), (
            var(0),) if m else ()) for p, T, m in rows)
        self.assertIs(is_derivation_of(BOOK, FACE, tree, (other, ())), False)
        tree = read_declaration("val _ = ref []")
        self.assertIs(is_derivation_of(BOOK, FACE, tree, (other, ())), True)
        tree = read_declaration("val rec f = fn x => 1 end")
        for T, good in ((var(3), True), (INT, True)):
            self.assertIs(is_derivation_of(BOOK, FACE, tree, ((((1, 0, 1, 0, 0), T, ()), ((1, 0, 1, 0, 2), INT, ())), ())), good)
        self.assertIs(is_derivation_of(BOOK, FACE, tree, ((((1, 0, 1, 0, 0), INT, ()), ((1, 0, 1, 0, 2), STRING, ())), ())), False)
        for value in ODD:
            self.assertIs(is_derivation_of(BOOK, FACE, tree, value), False)

    def test_arguments(self):
        for call, more in ((typed_values, ()), (is_derivation_of, (None,))):
            self.assertRaises(InvalidBook, call, None, None, None, *more)
            self.assertRaises(InvalidFace, call, BOOK, None, None, *more)
            for tree in (*ODD, read_declaration("type t = int"), read_declaration("exception E"), read_expression("1"),
                         read_declaration("open S")):
                self.assertTrue(not is_declaration(tree) or tree[0] not in ("val", "rec"))
                self.assertRaises(InvalidTree, call, BOOK, FACE, tree, *more)
            self.assertRaises(Refused, call, BOOK, FACE, read_declaration("val x = y"), *more)


if __name__ == "__main__":
    unittest.main()
