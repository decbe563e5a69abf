"""[3.1], [3.2], [0.8] and part 3c: trees of types, and declarations of types."""

import unittest

from letquay.data.faces import Face, base_face
from letquay.data.looking import declared_exception, declared_group, declared_type, scheme_of_tree, type_of_tree
from letquay.errors import InvalidBook, InvalidFace, InvalidOperation, InvalidTree, Refused, TooMany
from letquay.text.reader import read_declaration, read_type
from letquay.types.books import Book
from letquay.types.schemes import Scheme
from letquay.types.terms import size_of
from tests.judge import judged
from tests.odd import ODD
from tests.typing_tools import BOOK, BOOL, EXN, INT, STRING, UNIT, list_of, ref_of, sized, var

A, B, C = var(0), var(1), var(2)
PLAIN = Book()
BASE = base_face()
SCOPE = (BASE.with_type("pair", (2, ("made", 7, (A, B)))).with_type("swap", (2, ("tuple", (B, A))))
         .with_type("const", (1, INT)).with_type("big", (1, ("tuple", (sized(99), A, A))))
         .with_structure("S", Face().with_type("t", (0, ("made", 9, ()))).with_structure("T", BASE)))


def made(stamp, *types):
    return ("made", stamp, types)


def group_of(text):
    return read_declaration("datatype " + text)[1]


class LookingTest(unittest.TestCase):
    def refused(self, reason, call, *args, **more):
        with self.assertRaises(Refused, msg=args) as caught:
            call(*args, **more)
        self.assertEqual(caught.exception.reason, reason)

    def too_many(self, call, *args, **more):
        with self.assertRaises(TooMany) as caught:
            call(*args, **more)
        self.assertEqual(caught.exception.limit, 300)


class TypeOfTreeTest(LookingTest):
    def test_types(self):
        for text, T in (
                ("int", INT), ("string", STRING), ("bool", BOOL), ("exn", EXN), ("unit", UNIT), ("'a", A), ("'b", B),
                ("'a list", list_of(A)), ("int ref", ref_of(INT)), ("'b -> 'a", ("fn", B, A)),
                ("'a * int * 'b", ("tuple", (A, INT, B))), ("('a, int) pair", made(7, A, INT)), ("S.t", made(9)),
                ("S.T.int", INT), ("('a, int) swap", ("tuple", (INT, A))), ("'a const", INT),
                (("('a, int) swap list"), list_of(("tuple", (INT, A)))),
                ("(('a, int) swap, string) swap", ("tuple", (STRING, ("tuple", (INT, A)))))):
            self.assertEqual(type_of_tree(BOOK, SCOPE, read_type(text), variables=("a", "b")), T, text)

    def test_unbound(self):
        for text, place, path in (
                ("t", (), ("t",)), ("S.u", (), ("S", "u")), ("T.t", (), ("T", "t")), ("'c", (), ("c",)), ("''a", (), ("a",)),
                ("int -> 'c", (2,), ("c",)), ("int * t", (1, 1), ("t",)), ("(int, 'a * 'c) pair", (2, 1, 1, 1), ("c",)),
                ("t list", (2, 0), ("t",)), ("'c t", (), ("t",)), ("int list -> ''b", (2,), ("b",)),
                ("'c * 'd", (1, 0), ("c",)), ("('c, t) pair", (2, 0), ("c",)), ("S.list", (), ("S", "list"))):
            self.refused(("unbound", place, path), type_of_tree, BOOK, SCOPE, read_type(text), variables=("a", "b"))

    def test_arity(self):
        for text, place, path in (
                ("list", (), ("list",)), ("int int", (), ("int",)), ("(int, int) list", (), ("list",)),
                ("pair", (), ("pair",)), ("'a pair", (), ("pair",)), ("'a S.t", (), ("S", "t")), ("ref", (), ("ref",)),
                ("int -> list", (2,), ("list",)), ("'c int", (), ("int",)), ("(t, u) list", (), ("list",))):
            self.refused(("arity", place, path), type_of_tree, BOOK, SCOPE, read_type(text))

    def test_what_comes_first(self):
        for text, reason in (
                ("t -> list", ("unbound", (1,), ("t",))), ("list -> t", ("arity", (1,), ("list",))),
                ("(t, list) pair", ("unbound", (2, 0), ("t",))), ("(list, t) pair", ("arity", (2, 0), ("list",))),
                ("t int", ("arity", (), ("int",))), ("t u", ("unbound", (), ("u",))),
                ("t const", ("unbound", (2, 0), ("t",)))):
            self.refused(reason, type_of_tree, BOOK, SCOPE, read_type(text))

    def test_too_great(self):
        f = type_of_tree
        self.assertEqual(size_of(BOOK, f(BOOK, SCOPE, read_type("'a big"), variables=("a",))), 102)
        self.too_many(f, BOOK, SCOPE, read_type("int big big"))
        self.too_many(f, BOOK, SCOPE, read_type("int big * int big * int big"))
        self.assertEqual(f(BOOK, SCOPE, read_type("int big const")), INT)
        self.too_many(f, BOOK, SCOPE, read_type("int big big const"))
        self.too_many(f, BOOK, SCOPE, read_type("int big big * t"))
        self.refused(("unbound", (1, 0), ("t",)), f, BOOK, SCOPE, read_type("t * int big big"))
        self.refused(("unbound", (2,), ("t",)), f, BOOK, SCOPE, read_type("(int big * int big) -> t"))
        self.refused(("unbound", (1, 3), ("t",)), f, BOOK, SCOPE, read_type("int big * int big * int big * t"))
        self.refused(("arity", (), ("int",)), f, BOOK, SCOPE, read_type("int big big int"))
        tree = ("tuple", (("con", ("int",), ()),) * 299)
        self.assertEqual(size_of(BOOK, f(BOOK, SCOPE, tree)), 300)
        self.too_many(f, BOOK, SCOPE, ("tuple", (("con", ("int",), ()),) * 300))
        self.too_many(f, BOOK, SCOPE, ("con", ("list",), (tree,)))

    def test_errors(self):
        wrong = (None, ["a"], ("a", "a"), ("A",), ("a", "b", "c", "d", "e"), ("val",), (1,), "a", (("a",),), {}, ("ref",))
        for variables in wrong:
            with self.assertRaises(InvalidOperation):
                type_of_tree(BOOK, SCOPE, read_type("t"), variables=variables)
            with self.assertRaises(InvalidTree):
                type_of_tree(BOOK, SCOPE, None, variables=variables)
            with self.assertRaises(InvalidFace):
                type_of_tree(BOOK, None, None, variables=variables)
            with self.assertRaises(InvalidBook):
                type_of_tree(None, None, None, variables=variables)
        self.assertEqual(type_of_tree(BOOK, SCOPE, read_type("'d"), variables=("a", "b", "c", "d")), var(3))

    def test_errors_of_all_functions(self):
        int_tree = read_type("int")
        group = group_of("t = A")
        calls = (
            lambda book, scope: type_of_tree(book, scope, int_tree), lambda book, scope: scheme_of_tree(book, scope, int_tree),
            lambda book, scope: declared_type(book, scope, (), "t", int_tree),
            lambda book, scope: declared_exception(book, scope, "E", int_tree),
            lambda book, scope: declared_group(book, scope, group))
        for call in calls:
            call(BOOK, SCOPE)
            for value in ODD:
                if not isinstance(value, Book):
                    with self.assertRaises(InvalidBook):
                        call(value, None)
                with self.assertRaises(InvalidFace):
                    call(BOOK, value)
            for scope in (SCOPE, BASE.with_constructor("C", 10, 0), BASE.with_structure("S", SCOPE)):
                with self.assertRaises(InvalidFace):
                    call(PLAIN, scope)
        with self.assertRaises(InvalidFace):
            type_of_tree(BOOK, BASE.with_constructor("C", 10, 0), int_tree)

    def test_wrong_trees(self):
        for value in (*ODD, ("fn", ("var", "a")), ("con", ("A",), ()), ("int", 1)):
            if not judged("type", value):
                for call in (lambda: type_of_tree(BOOK, SCOPE, value), lambda: scheme_of_tree(BOOK, SCOPE, value),
                             lambda: declared_type(BOOK, SCOPE, (), "t", value)):
                    with self.assertRaises(InvalidTree):
                        call()
                if value is not None:
                    with self.assertRaises(InvalidTree):
                        declared_exception(BOOK, SCOPE, "E", value)
            with self.assertRaises(InvalidTree):
                declared_group(BOOK, SCOPE, value)


class SchemeOfTreeTest(LookingTest):
    def test_schemes(self):
        for text, marks, body in (
                ("int", (), INT), ("'a -> 'b", (), ("fn", A, B)), ("'b -> 'a -> 'b", (), ("fn", A, ("fn", B, A))),
                ("''a -> 'b", (0,), ("fn", A, B)), ("'a -> ''a -> 'a", (1,), ("fn", A, ("fn", B, A))),
                ("('a, ''b) swap", (0,), ("tuple", (A, B))), ("''a const -> 'b", (), ("fn", INT, A)),
                ("''a list * ''b * 'a", (0, 1), ("tuple", (list_of(A), B, C)))):
            self.assertTrue(scheme_of_tree(BOOK, SCOPE, read_type(text)) == Scheme(BOOK, marks, body), text)

    def test_refusals(self):
        for text, reason in (("'a -> t", ("unbound", (2,), ("t",))), ("''a int", ("arity", (), ("int",))),
                             ("'a * 'b list list S.t", ("arity", (1, 1), ("S", "t")))):
            self.refused(reason, scheme_of_tree, BOOK, SCOPE, read_type(text))
        self.too_many(scheme_of_tree, BOOK, SCOPE, read_type("'a big big"))

    def test_many_variables(self):
        names = [a + b + "q" for a in "abcdefghij" for b in "abcdefghij"]
        tree = ("tuple", tuple(("var", name) for name in names))
        self.assertEqual(scheme_of_tree(BOOK, SCOPE, tree).total, 100)


class DeclaredTypeTest(LookingTest):
    def test_declared_type(self):
        face = declared_type(BOOK, SCOPE, ("b", "a"), "t", read_type("'a list -> 'b"))
        self.assertTrue(face == Face().with_type("t", (2, ("fn", list_of(B), A))))
        self.assertEqual(len(face), 1)
        self.assertEqual(declared_type(BOOK, SCOPE, ("a",), "t", read_type("int")).types, {"t": (1, INT)})
        self.assertEqual(declared_type(BOOK, SCOPE, (), "pair", read_type("(int, int) pair")).types,
                         {"pair": (0, made(7, INT, INT))})
        self.assertEqual(declared_type(BOOK, SCOPE, ("a", "b"), "t", read_type("('b, ('a, int) swap) swap")).types,
                         {"t": (2, ("tuple", (("tuple", (INT, A)), B)))})

    def test_reserved_names(self):
        for name in ("int", "string", "bool", "exn", "list"):
            self.refused(("twice", (), name), declared_type, BOOK, SCOPE, (), name, read_type("t"))
        for name in ("ref", "unit", "T", "", None, 1, ("t",), "abcdefghi"):
            with self.assertRaises(InvalidTree):
                declared_type(BOOK, SCOPE, (), name, read_type("int"))

    def test_refusals(self):
        for params, text, reason in (
                ((), "'a", ("unbound", (), ("a",))), (("a",), "''a", ("unbound", (), ("a",))),
                (("a",), "'a * 'b", ("unbound", (1, 1), ("b",))), (("a",), "'a t", ("unbound", (), ("t",))),
                ((), "int list list bool", ("arity", (), ("bool",)))):
            self.refused(reason, declared_type, BOOK, SCOPE, params, "t", read_type(text))
        self.too_many(declared_type, BOOK, SCOPE, (), "t", read_type("int big big"))

    def test_wrong_parameters(self):
        for params in (None, ["a"], ("a", "a"), ("a", "b", "c", "d", "e"), ("A",), "a", (1,)):
            with self.assertRaises(InvalidTree):
                declared_type(BOOK, SCOPE, params, "int", read_type("t"))

    def test_exceptions(self):
        self.assertTrue(declared_exception(BOOK, SCOPE, "E", None) == Face().with_exception("E", None))
        face = declared_exception(BOOK, SCOPE, "E", read_type("(int, S.t) pair"))
        self.assertTrue(face == Face().with_exception("E", made(7, INT, made(9))))
        self.assertEqual(len(face), 1)
        for name in ("True", "False", "Nil", "Cons", "Match", "Div", "Size", "End"):
            self.refused(("twice", (), name), declared_exception, BOOK, SCOPE, name, read_type("t"))
            self.refused(("twice", (), name), declared_exception, BOOK, SCOPE, name, None)
        for name in ("e", "", None, 1, ("E",), "Abcdefghi"):
            with self.assertRaises(InvalidTree):
                declared_exception(BOOK, SCOPE, name, None)
        for text, reason in (("'a", ("unbound", (), ("a",))), ("int -> ''a", ("unbound", (2,), ("a",))),
                             ("t", ("unbound", (), ("t",))), ("list", ("arity", (), ("list",)))):
            self.refused(reason, declared_exception, BOOK, SCOPE, "E", read_type(text))
        self.too_many(declared_exception, BOOK, SCOPE, "E", read_type("int big big"))


class DeclaredGroupTest(LookingTest):
    def test_the_example(self):
        tree = ("con", ("tree",), (("var", "a"),))
        group = ((("a",), "tree", (("Leaf", None), ("Node", ("tuple", (tree, ("var", "a"), tree))))),)
        book, face = declared_group(Book(), base_face(), group)
        self.assertEqual([face.types["tree"], face.tags, book.asks(7), str(face)], [
            (1, ("made", 7, (("var", 0),))), {"Leaf": (7, 0), "Node": (7, 1)}, (0,), "face of 3 items"])

    def test_groups(self):
        book, face = declared_group(BOOK, SCOPE, group_of(
            "('b, 'a) t = A of 'a * 'b u | B and 'c u = C of ('c, int -> int) t ref | D of ('c, int) swap and v = E of S.t"))
        self.assertEqual(book.constructors(10), (("A", ("tuple", (B, made(11, A)))), ("B", None)))
        self.assertEqual(book.constructors(11), (
            ("C", ref_of(made(10, A, ("fn", INT, INT)))), ("D", ("tuple", (INT, A)))))
        self.assertEqual(book.constructors(12), (("E", made(9)),))
        self.assertEqual([book.printed(k) for k in (10, 11, 12)], ["t", "u", "v"])
        self.assertEqual([book.asks(k) for k in (10, 11, 12)], [(0, 1), (0,), None])
        self.assertEqual(face.types, {"t": (2, made(10, A, B)), "u": (1, made(11, A)), "v": (0, made(12))})
        self.assertEqual(face.tags, {"A": (10, 0), "B": (10, 1), "C": (11, 0), "D": (11, 1), "E": (12, 0)})
        self.assertEqual((len(face), len(book), len(BOOK)), (8, 12, 9))

    def test_names_of_the_group_hide_those_of_the_scope(self):
        book, _ = declared_group(BOOK, SCOPE, group_of("pair = P of int * swap | Q and swap = W of S.t"))
        self.assertEqual(book.constructors(10), (("P", ("tuple", (INT, made(11)))), ("Q", None)))
        self.refused(("arity", (0, 2, 0, 1), ("pair",)), declared_group, BOOK, SCOPE, group_of("pair = P of (int, int) pair"))
        self.refused(("unbound", (0, 2, 0, 1), ("S", "pair")), declared_group, BOOK, SCOPE, group_of("pair = P of S.pair"))
        inner = SCOPE.with_structure("S", Face().with_type("t", (0, INT)))
        book, _ = declared_group(BOOK, inner, group_of("t = A of S.t"))
        self.assertEqual(book.constructors(10), (("A", INT),))

    def test_constructors_of_the_scope_can_be_declared_again(self):
        scope = SCOPE.with_constructor("A", 7, 0).with_exception("B", None)
        _, face = declared_group(BOOK, scope, group_of("t = A | B and s = S"))
        self.assertEqual(face.tags, {"A": (10, 0), "B": (10, 1), "S": (11, 0)})

    def test_twice(self):
        for text, place, name in (
                ("int = A", (0,), "int"), ("list = A of list", (0,), "list"), ("t = A and exn = B", (1,), "exn"),
                ("t = A and t = B", (1,), "t"), ("t = A | A", (0, 2, 1), "A"), ("t = A and u = B | A", (1, 2, 1), "A"),
                ("t = Nil", (0, 2, 0), "Nil"), ("t = A | Match", (0, 2, 1), "Match"), ("t = A | A and t = B", (0, 2, 1), "A"),
                ("t = A and t = A", (1,), "t"), ("t = A of nothing | A", (0, 2, 1), "A"), ("t = True and int = B",
                 (0, 2, 0), "True"), ("t = A of t and u = End", (1, 2, 0), "End"), ("bool = Nil", (0,), "bool")):
            self.refused(("twice", place, name), declared_group, BOOK, SCOPE, group_of(text))

    def test_refusals_of_carried_types(self):
        for text, reason in (
                ("t = A of 'a", ("unbound", (0, 2, 0, 1), ("a",))), ("'a t = A of ''a", ("unbound", (0, 2, 0, 1), ("a",))),
                ("'a t = A of 'a and u = B of 'a", ("unbound", (1, 2, 0, 1), ("a",))),
                ("t = A | B of int * nope", ("unbound", (0, 2, 1, 1, 1, 1), ("nope",))),
                ("'a t = A of t", ("arity", (0, 2, 0, 1), ("t",))), ("'a t = A of ('a, 'a) t", ("arity", (0, 2, 0, 1), ("t",))),
                ("t = A of u and 'a u = B of nope", ("arity", (0, 2, 0, 1), ("u",))),
                ("t = A of t and u = B of nope", ("unbound", (1, 2, 0, 1), ("nope",)))):
            self.refused(reason, declared_group, BOOK, SCOPE, group_of(text))

    def test_empty(self):
        for text, row, name in (
                ("t = A of t", 0, "t"), ("t = A of t | B and u = C of u * t", 1, "u"), ("t = A of u and u = B of t", 0, "t"),
                ("'a t = A of 'a list t", 0, "t"), ("t = A of t ref", 0, "t"), ("t = A of int and u = B of u and v = C of v",
                 1, "u")):
            self.refused(("empty", (row,), name), declared_group, BOOK, SCOPE, group_of(text))
        for text in ("t = A of t -> t", "t = A of t list", "'a t = A of 'a", "t = A of (t -> t) ref", "t = A | B of t"):
            self.assertEqual(len(declared_group(BOOK, SCOPE, group_of(text))[0]), 10)

    def test_too_great(self):
        self.too_many(declared_group, BOOK, SCOPE, group_of("t = A of int big big"))
        self.too_many(declared_group, BOOK, SCOPE, group_of("t = A of int big big | B of nope"))
        self.refused(("unbound", (0, 2, 0, 1), ("nope",)), declared_group, BOOK, SCOPE,
                     group_of("t = A of nope | B of int big big"))
        self.refused(("twice", (0, 2, 1), "A"), declared_group, BOOK, SCOPE, group_of("t = A of int big big | A"))
        self.too_many(declared_group, BOOK, SCOPE, group_of("t = A of t and u = B of int big big"))

    def test_a_full_scope(self):
        letters = "abcdefghijklm"
        scope = BASE
        many = Face()
        for a in letters:
            for b in letters:
                many = many.with_value(a + b + "q", Scheme(PLAIN, (), INT))
        for k in range(11):
            scope = scope.with_structure("S" + letters[k], many)
        for b in letters:
            for a in letters[:8]:
                if len(scope) < 2000:
                    scope = scope.with_value(a + b + "r", Scheme(PLAIN, (), INT))
        self.assertGreater(len(scope), 1980)
        book, face = declared_group(PLAIN, scope, group_of("t = A of u | B and u = C of t | D and v = E and w = F"))
        self.assertEqual(len(face), 10)

    def test_what_is_refused_changes_nothing(self):
        group = [group_of("t = A")]
        with self.assertRaises(InvalidTree):
            declared_group(BOOK, SCOPE, group)
        self.assertEqual((group, len(BOOK)), ([group_of("t = A")], 9))
