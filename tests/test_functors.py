import unittest

from letquay.data.faces import Face
from letquay.errors import InvalidBook, InvalidFace, InvalidNumber, InvalidOperation, InvalidScope, InvalidTree, TooMany
from letquay.modules.functors import applied, is_same_up_to, typed_functor
from letquay.modules.matching import fitted
from letquay.modules.scopes import Scope
from letquay.modules.signatures import signed_face
from letquay.modules.structures import typed_structure
from letquay.text.reader import read_signature, read_structure
from letquay.text.trees import is_signature, is_structure
from letquay.types.books import Book
from letquay.types.schemes import Scheme
from tests.module_tools import BASE, INT, SCOPE, STRING, made, reason_of, signed, structure, values, var
from tests.odd import ODD


def functor(sig, body, book=None, scope=SCOPE):
    return typed_functor(Book() if book is None else book, scope, "X", read_signature(f"sig {sig} end"), read_structure(body))


def application(book, found, arg, scope=SCOPE):
    """The pair of the book and of the face of an application to a structure with a text."""
    typed = structure(f"struct {arg} end", book, scope)
    return applied(typed.book, found, typed.face)


def refusal(sig, body, arg):
    book, found = functor(sig, body)
    return reason_of(application, book, found, arg)


class FunctorTest(unittest.TestCase):
    def test_parameters_made_stamps_and_faces(self):
        book, found = functor("type t datatype d = D of t val x : t", """struct datatype e = E of X.t | F of X.d val y = E X.x
            structure S = struct type u = int val z = X.x end :> sig type u val z : X.t end type v = X.t end""")
        self.assertEqual((found.parameter.bound, found.parameter.entries), ((7, 8), (("type", ("t",)), ("data", (("d",),)), ("value", ("x",)))))
        self.assertEqual((found.made, len(book)), (tuple(range(9, len(book) + 1)), 11))
        self.assertEqual(book.constructors(9), (("E", made(7)), ("F", made(8))))
        self.assertEqual(values(book, found.face), {"y": "e"})
        self.assertEqual((found.face.types["v"], found.face.tags), ((0, made(7)), {"E": (9, 0), "F": (9, 1)}))
        self.assertEqual([place for place, _ in found.notes], [(1, 1), (1, 2, 2, 1, 1, 1)])
        self.assertEqual([place for place, _ in found.faces], [(1, 2, 2, 1), (1, 2, 2), ()])
        self.assertEqual(found.faces[-1][1], found.face)
        self.assertEqual(found, functor("type t datatype d = D of t val x : t", """struct datatype e = E of X.t | F of X.d val y = E X.x
            structure S = struct type u = int val z = X.x end :> sig type u val z : X.t end type v = X.t end""")[1])
        for other in (functor("type t", "struct end")[1], 1, None, found.parameter):
            self.assertTrue(found != other and not found == other)
        # The parameter hides a structure of the scope.
        scope = SCOPE.opened(Face().with_structure("X", Face().with_value("x", Scheme(Book(), (), STRING))))
        self.assertEqual(values(*[(b, f.face) for b, f in [functor("val x : int", "struct val y = X.x end", None, scope)]][0]), {"y": "int"})

    def test_made_stamps_of_applications(self):
        book, inner = functor("type t", "struct datatype d = D of X.t end")
        scope = SCOPE.with_functor("F", inner)
        first = len(book)
        book, outer = functor("type u", "struct structure A = F(struct type t = X.u end) structure B = F(struct type t = int end) end", book, scope)
        self.assertEqual((outer.parameter.bound, outer.made), ((first + 1,), (first + 2, first + 3)))
        self.assertEqual([book.constructors(n) for n in outer.made], [(("D", made(first + 1)),), (("D", INT),)])
        more, face = application(book, outer, "type u = string")
        a, b = [face.structures[name].types["d"][1][1] for name in "AB"]
        self.assertEqual((more.constructors(a), more.constructors(b), a, b), ((("D", STRING),), (("D", INT),), len(book) + 1, len(book) + 2))

    def test_places_of_refusals(self):
        for sig, body, reason in (
                ("val x : no", "struct end", ("unbound", ("signature", 1, 0, 2), ("no",))), ("val x : int val x : int", "No", ("twice", ("signature", 1, 1), "x")),
                ("", "struct val x = no end", ("unbound", ("body", 1, 0, 2), ("no",))), ("", "No", ("unbound", ("body",), ("No",))),
                ("", "struct end :> sig val x : int end", ("lacks", ("body",), "value", ("x",))), ("", "X.No", ("unbound", ("body",), ("X", "No"))),
                ("type t", "struct val x = (fn y => y = y end : X.t -> bool) end", ("unequal", ("body", 1, 0, 2, 1), ("fn", made(7), made(3))))):
            self.assertEqual(reason_of(functor, sig, body), reason, (sig, body))

    def test_arguments(self):
        sig, body = read_signature("sig end"), read_structure("struct end")
        self.assertRaises(InvalidBook, typed_functor, None, None, "x", 1, 1)
        self.assertRaises(InvalidScope, typed_functor, Book(), BASE, "x", 1, 1)
        for value in ODD:
            if value != "X":
                self.assertRaises(InvalidTree, typed_functor, Book(), SCOPE, value, sig, body)
            if not is_signature(value):
                self.assertRaises(InvalidTree, typed_functor, Book(), SCOPE, "X", value, body)
            if not is_structure(value):
                self.assertRaises(InvalidTree, typed_functor, Book(), SCOPE, "X", sig, value)


class AppliedTest(unittest.TestCase):
    def test_types_put_in(self):
        book, found = functor("type 'a t type ('a, 'b) u val x : int t", "struct datatype 'a d = D of 'a t' end".replace("'a t'", "('a, 'a X.t) X.u") .replace(
            "end", "val y = X.x type 'a w = 'a X.t exception E of int X.t end"))
        more, face = application(book, found, "type 'a t = 'a list type ('a, 'b) u = 'b -> 'a val x = [1]".replace("[1]", "1 :: []"))
        d = len(more)
        self.assertEqual((face.types, more.constructors(d)), ({"d": (1, made(d, var(0))), "w": (1, made(5, var(0)))}, (
            ("D", ("fn", made(5, var(0)), var(0))),)))
        self.assertEqual((values(more, face), face.exceptions, more.asks(d), more.printed(d)), ({"y": "int list"}, {"E": made(5, INT)}, None, "d"))

    def test_asks(self):
        for word, arg, before, behind in (
                ("type", "type t = int", None, (0,)), ("eqtype", "type t = int", (0,), (0,)), ("type", "type t = int -> int", None, None),
                ("type", "type t = (int -> int) ref", None, (0,))):
            book, found = functor(f"{word} t", "struct datatype 'a d = D of 'a * X.t end")
            self.assertEqual(book.asks(found.made[0]), before)
            more, face = application(book, found, arg)
            self.assertEqual(more.asks(face.types["d"][1][1]), behind, (word, arg))
        for arg, behind in (("type 'a t = 'a list", (0,)), ("type 'a t = 'a ref", ()), ("type 'a t = int", ()), ("type 'a t = 'a -> int", None)):
            book, found = functor("type 'a t", "struct datatype 'a d = D of 'a X.t and 'a e = E of 'a d end")
            more, face = application(book, found, arg)
            self.assertEqual([more.asks(face.types[name][1][1]) for name in "de"], [behind, behind])
        # Asks that become less: an `eqtype` that does not ask its parameter any more.
        book, found = functor("eqtype 'a t", "struct datatype 'a d = D of 'a X.t end")
        self.assertEqual(book.asks(found.made[0]), (0,))
        more, face = application(book, found, "type 'a t = 'a ref")
        self.assertEqual(more.asks(face.types["d"][1][1]), ())
        # Two types that are made apart hang on one another all the same.
        book, found = functor("type t", "struct datatype d = D of X.t datatype e = E of d datatype f = F of e list end")
        more, face = application(book, found, "type t = int")
        self.assertEqual([more.asks(face.types[name][1][1]) for name in "def"], [(), (), ()])
        more, face = application(book, found, "type t = exn")
        self.assertEqual([more.asks(face.types[name][1][1]) for name in "def"], [None, None, None])

    def test_new_abstract_stamps(self):
        body = "struct type t = int type 'a u = int end :> sig eqtype t type 'a u end"
        book, found = functor("type v", body)
        more, face = application(book, found, "type v = int")
        stamps = [face.types[name][1][1] for name in "tu"]
        self.assertEqual([(more.asks(n), more.constructors(n), more.arity(n)) for n in stamps], [((), None, 0), (None, None, 1)])

    def test_two_applications(self):
        book, found = functor("type t", "struct datatype d = D of X.t type s = X.t structure A = struct type w = int end :> sig type w end end")
        typed = structure("struct datatype t = T end", book)
        book, one = applied(typed.book, found, typed.face)
        book, other = applied(book, found, typed.face)
        self.assertNotEqual(one, other)
        self.assertEqual(one.types["s"], other.types["s"])
        self.assertEqual(one.types["s"], typed.face.types["t"])
        self.assertTrue(is_same_up_to(book, one, other, len(typed.book)))
        self.assertNotEqual(one.structures["A"], other.structures["A"])

    def test_groups_that_do_not_live_any_more(self):
        body = "struct datatype d = D of d X.t end"
        self.assertEqual(refusal("type 'a t", body, "type 'a t = 'a"), ("empty", "d"))
        self.assertEqual(refusal("type 'a t", body, "type 'a t = 'a ref"), ("empty", "d"))
        for arg in ("type 'a t = 'a list", "type 'a t = int", "type 'a t = 'a -> int", "datatype 'a t = N | S of 'a"):
            self.assertIs(refusal("type 'a t", body, arg), None)
        body = "struct datatype c = C datatype d = D of e X.t | M and e = E of e X.t datatype f = F of f X.t end"
        self.assertEqual(refusal("type 'a t", body, "type 'a t = 'a * int"), ("empty", "e"))

    def test_arguments_that_do_not_match(self):
        for arg, reason in (("val x = 1", ("lacks", "type", ("t",))), ("type t = int", ("lacks", "value", ("x",))),
                            ("type t = int val x = \"a\"", ("unlike", "value", ("x",))), ("type 'a t = int val x = 1", ("unlike", "type", ("t",)))):
            self.assertEqual(refusal("type t val x : t", "struct end", arg), reason)
        # More than is wanted does not matter.
        book, found = functor("val x : int", "struct val y = X.x end")
        self.assertEqual(application(book, found, "val x = 1 val y = 2")[1], application(book, found, "val x = 1")[1])
        # The body is typed by the signature alone.
        book, found = functor("val f : int -> int", "struct val g = X.f end")
        self.assertEqual(values(*application(book, found, "val f = fn x => x end")), {"g": "int -> int"})

    def test_errors(self):
        book, found = functor("type t", "struct type u = X.t * X.t val x = (fn y => y end : X.t -> X.t) end")
        self.assertRaises(InvalidBook, applied, None, None, None)
        for value in (*ODD, found.parameter):
            self.assertRaises(InvalidOperation, applied, book, value, None)
            self.assertRaises(InvalidFace, applied, book, found, value)
        self.assertRaises(InvalidOperation, applied, Book(), found, Face())
        self.assertRaises(InvalidFace, applied, book, found, Face().with_type("t", (0, made(99))))
        big = Face().with_type("t", (0, ("tuple", (INT,) * 149)))
        with self.assertRaises(TooMany) as caught:
            applied(book, found, big)
        self.assertEqual(caught.exception.limit, 300)
        # The size is told ahead of a type without values.
        book, found = functor("type 'a t type u", "struct datatype d = D of d X.t type v = X.u * X.u end")
        face = Face().with_type("t", (1, var(0)))
        self.assertEqual(reason_of(applied, book, found, face.with_type("u", (0, INT))), ("empty", "d"))
        with self.assertRaises(TooMany):
            applied(book, found, face.with_type("u", (0, ("tuple", (INT,) * 200))))
        before = len(book)
        self.assertEqual((len(book), found.made), (before, (9,)))


FUNCTORS = (
    ("type t val x : t", "struct datatype d = D of X.t | E val y = D X.x val f = fn D z => z | E => X.x end end"),
    ("type 'a t", "struct datatype 'a d = D of 'a X.t | N val g = fn x => (x, N) end type 'a u = 'a d X.t end"),
    ("eqtype t val x : t", "struct val same = fn y => y = X.x end val l = X.x :: [] end"),
    ("datatype t = A | B of t type u val f : t -> u", "struct structure S = struct datatype v = C of X.u end :> sig type v end val g = X.f X.A end"),
    ("type ('a, 'b) p structure S : sig type t val x : (t, t) p end", "struct datatype ('a, 'b) q = Q of ('b, 'a) X.p val y = Q X.S.x end"),
    ("type t val f : t -> t", "struct structure A = X structure B = struct open A val g = fn x => f (f x) end end end"),
    ("type t", "struct exception E of X.t val h = fn E x => x :: [] | _ => [] end end"),
    ("type 'a t", "struct datatype d = D of d X.t datatype e = E of d end"),
    ("type t", "X"), ("datatype d = D type t", "struct val x = X.D datatype e = E of X.d end"),
)
ARGUMENTS = (
    "type 'a t = 'a", "type 'a t = 'a * 'a list",
    "type t = int val x = 1 datatype d = D", "type t = string val x = \"a\" val f = fn z => z ^ z end", "type 'a t = 'a list",
    "datatype 'a t = N | S of 'a * 'a t", "datatype t = A | B of t type u = int val f = fn A => 1 | B _ => 2 end", "type t = int list val x = []",
    "type ('a, 'b) p = 'a -> 'b structure S = struct type t = int val x = fn z => z end end",
    "datatype ('a, 'b) p = P of 'a * 'b structure S = struct type t = int val x = P (1, 2) end", "type t = int -> int val x = fn z => z end val f = fn z => z end",
    "datatype d = D type t = d val x = D val f = fn z => z end")


class ByTextTest(unittest.TestCase):
    def test_an_application_is_the_body_by_text(self):
        many = 0
        for sig, body in FUNCTORS:
            book, found = functor(sig, body)
            for arg in ARGUMENTS:
                typed = structure(f"struct {arg} end", book)
                reason = reason_of(applied, typed.book, found, typed.face)
                if reason is not None and reason[0] != "empty":
                    self.assertIn(reason[0], ("lacks", "unlike"))
                    continue
                many += 1
                fit = fitted(typed.book, typed.face, found.parameter)
                scope = Scope(BASE.with_structure("X", fit))
                if reason is not None:
                    by_text = reason_of(typed_structure, typed.book, scope, read_structure(body))
                    self.assertEqual((by_text[0], by_text[2]), reason)
                    continue
                more, face = applied(typed.book, found, typed.face)
                text = typed_structure(typed.book, scope, read_structure(body))
                # Put both faces over one book: stamps of both stand behind those of the argument.
                self.assertTrue(is_same_up_to(self.longer(more, text.book), face, text.face, len(typed.book)), (body, arg))
                for one, other in zip(sorted(self.datatypes(more, face)), sorted(self.datatypes(text.book, text.face))):
                    self.assertEqual(one, other)
        self.assertGreater(many, 20)

    @staticmethod
    def longer(one, other):
        return one if len(one) > len(other) else other

    @staticmethod
    def datatypes(book, face):
        """What can be compared of the datatypes of a face: names, asks and constructors."""
        stamps = {stamp for stamp, _ in face.tags.values()}
        return [(book.printed(n), str(book.asks(n)), [name for name, _ in book.constructors(n)]) for n in stamps]

    def test_marks_can_be_fewer_by_text(self):
        body = read_structure("struct val f = fn x => (x = x, X.y) end end")
        book, one = typed_functor(Book(), SCOPE, "X", read_signature("sig type t val y : t end"), body)
        self.assertEqual(values(book, one.face), {"f": "''a -> bool * t"})


class SameTest(unittest.TestCase):
    def setUp(self):
        rows = (("a", 0, None, None), ("b", 0, None, None), ("c", 1, None, None), ("d", 1, None, None))
        self.book = Book().with_stamps(rows)[0]

    def same(self, one, other, stamps=6):
        return is_same_up_to(self.book, one, other, stamps)

    def test_exchanged_stamps(self):
        a, b = made(7), made(8)

        def face(T, U):
            return Face().with_type("t", (0, T)).with_value("x", Scheme(self.book, (), ("fn", T, U))).with_exception("E", U)
        self.assertTrue(self.same(face(a, b), face(a, b)) and self.same(face(a, b), face(b, a)) and self.same(face(a, a), face(b, b)))
        self.assertFalse(self.same(face(a, b), face(a, a)) or self.same(face(a, a), face(a, b)) or self.same(face(a, b), face(a, INT)))
        self.assertTrue(self.same(face(a, b), face(a, b), 7) and self.same(face(a, b), face(a, b), 10))
        self.assertFalse(self.same(face(a, b), face(b, a), 7))
        self.assertTrue(self.same(face(a, made(9, b)), face(b, made(10, a))))
        self.assertFalse(self.same(face(a, made(9, b)), face(b, made(10, b))))
        self.assertFalse(self.same(face(a, b), face(b, a), 8))

    def test_each_kind_of_item(self):
        base = Face()
        pairs = (
            (base.with_constructor("C", 7, 0), base.with_constructor("C", 8, 0), True), (base.with_constructor("C", 7, 0), base.with_constructor("C", 7, 1), False),
            (base.with_constructor("C", 7, 0), base.with_exception("C", None), False), (base.with_exception("C", None), base.with_exception("C", INT), False),
            (base.with_exception("C", made(7)), base.with_exception("C", made(8)), True), (base, base.with_exception("C", None), False),
            (base.with_structure("S", base.with_type("t", (0, made(7)))), base.with_structure("S", base.with_type("t", (0, made(8)))), True),
            (base.with_structure("S", base.with_type("t", (0, made(7)))).with_type("u", (0, made(7))),
             base.with_structure("S", base.with_type("t", (0, made(8)))).with_type("u", (0, made(7))), False),
            (base.with_type("t", (1, var(0))), base.with_type("t", (2, var(0))), False), (base.with_type("t", (2, var(1))), base.with_type("t", (2, var(0))), False),
            (base.with_value("x", Scheme(self.book, (), var(0))), base.with_value("x", Scheme(self.book, (0,), var(0))), False),
            (base.with_value("x", Scheme(self.book, (), var(0))), base.with_value("y", Scheme(self.book, (), var(0))), False),
            (base.with_type("t", (0, ("tuple", (made(7), made(7))))), base.with_type("t", (0, ("tuple", (made(8), made(8))))), True),
            (base.with_type("t", (0, ("tuple", ()))), base.with_type("t", (0, ("tuple", (made(8), made(8))))), False))
        for one, other, wanted in pairs:
            self.assertIs(self.same(one, other), wanted)
            self.assertIs(self.same(other, one), wanted)

    def test_errors(self):
        face = Face()
        for stamps in (5, 11, -1, True, None, "7", 10 ** 70, (7,)):
            with self.assertRaises(InvalidNumber) as caught:
                self.same(face, face, stamps)
            self.assertEqual(caught.exception.given, stamps)
        self.assertTrue(self.same(face, face, 6) and self.same(face, face, 10))
        self.assertRaises(InvalidBook, is_same_up_to, None, None, None, None)
        for value in ODD:
            self.assertRaises(InvalidFace, self.same, value, face, None)
            self.assertRaises(InvalidFace, self.same, face, value, None)
        self.assertRaises(InvalidFace, self.same, face.with_type("t", (0, made(11))), face)
        self.assertEqual(len(signed_face(Book(), SCOPE, read_signature("sig end"))[1]), 0)
        self.assertEqual(signed("sig end")[1].bound, ())


if __name__ == "__main__":
    unittest.main()
