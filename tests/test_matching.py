import unittest

from letquay.data.faces import Face
from letquay.data.looking import declared_group
from letquay.errors import InvalidBook, InvalidFace, Refused, TooMany
from letquay.modules.matching import fitted, is_below, is_matching, matched, sealed
from letquay.modules.scopes import Scope
from letquay.modules.signatures import Signed, bare
from letquay.text.reader import read_declaration
from letquay.types.books import Book
from letquay.types.schemes import Scheme
from tests.module_tools import BASE, BOOL, INT, SCOPE, STRING, made, reason_of, signed, structure, types, values, var
from tests.odd import ODD


def both(struct, sig):
    """A book with the face of a structure and a signed face."""
    typed = structure(f"struct {struct} end")
    book, one = signed(f"sig {sig} end", typed.book)
    return book, typed.face, one


def refusal(struct, sig):
    return reason_of(matched, *both(struct, sig))


class MatchedTest(unittest.TestCase):
    def test_realizations(self):
        book, face, one = both("type t = int type 'a u = 'a * 'a datatype d = D of int val x = 1 val f = fn z => z end exception E of int",
                               "type t eqtype 'a u datatype d = D of t val x : t val f : t -> t exception E of t")
        t, u, d = one.bound
        self.assertEqual(matched(book, face, one), {t: (0, INT), u: (1, ("tuple", (var(0), var(0)))), d: (0, made(7))})
        self.assertEqual(list(matched(book, face, one)), [t, u, d])
        # More items than the signature has do not matter.
        book, face, one = both("val x = 1 val y = 2 type t = int exception E structure S = struct end", "val x : int")
        self.assertEqual(matched(book, face, one), {})

    def test_what_lacks(self):
        for sig, kind, path in (
                ("type no", "type", ("no",)), ("type no = int", "type", ("no",)), ("datatype no = A", "data", ("no",)),
                ("datatype d = D and no = A", "data", ("no",)), ("val no : int", "value", ("no",)), ("exception No", "exception", ("No",)),
                ("structure No : sig val y : int end", "structure", ("No",)), ("structure S : sig val no : int end", "value", ("S", "no")),
                ("structure S : sig type no end", "type", ("S", "no")), ("structure S : sig datatype no = A end", "data", ("S", "no")),
                ("structure S : sig structure T : sig exception No end end", "structure", ("S", "T")), ("val x : int val no : int", "value", ("no",)),
                ("val t : int", "value", ("t",)), ("structure D : sig end", "structure", ("D",)), ("exception S", "exception", ("S",))):
            self.assertEqual(refusal("type t = int datatype d = D val x = 1 structure S = struct end", sig), ("lacks", kind, path), sig)

    def test_what_is_unlike(self):
        struct = """type t = int type 'a u = 'a list type f = int -> int datatype d = D of int | E exception X exception Y of int
            val x = 1 val id = fn z => z end val same = fn z => z = z end structure S = struct type t = string val x = "a" end"""
        for sig, kind, path in (
                ("type 'a t", "type", ("t",)), ("type u", "type", ("u",)), ("type t = string", "type", ("t",)), ("type 'a u = int list", "type", ("u",)),
                ("eqtype f", "type", ("f",)), ("datatype t = A", "data", ("t",)), ("datatype d = D of string | E", "data", ("d",)),
                ("datatype d = D | E", "data", ("d",)), ("datatype d = E | D of int", "data", ("d",)), ("datatype d = D of int", "data", ("d",)),
                ("datatype d = D of int | E | G", "data", ("d",)), ("datatype 'a d = D of int | E", "data", ("d",)), ("datatype d = D of int | F", "data", ("d",)),
                ("exception X of int", "exception", ("X",)), ("exception Y", "exception", ("Y",)), ("exception Y of string", "exception", ("Y",)),
                ("exception D", "exception", ("D",)), ("exception D of int", "exception", ("D",)), ("val x : string", "value", ("x",)),
                ("val x : 'a", "value", ("x",)), ("val same : 'a -> bool", "value", ("same",)), ("val id : int -> string", "value", ("id",)),
                ("structure S : sig type t = int end", "type", ("S", "t")), ("structure S : sig val x : int end", "value", ("S", "x")),
                ("type t val x : t val id : t -> string", "value", ("id",)), ("type t type s structure S : sig type t val x : s end", "type", ("s",))):
            found = refusal(struct, sig)
            if kind == "type" and path == ("s",):
                self.assertEqual(found, ("lacks", kind, path))
                continue
            self.assertEqual(found, ("unlike", kind, path), sig)

    def test_what_is_like(self):
        struct = "type t = int type 'a u = 'a list val id = fn z => z end val same = fn z => z = z end val l = [] exception X of t"
        for sig in ("type t", "eqtype t", "type t = int", "type 'a u = 'a list", "eqtype 'a u", "val id : 'a -> 'a", "val id : ''a -> ''a",
                    "val id : int -> int", "val same : ''a -> bool", "val same : int list -> bool", "val l : 'a list", "val l : (int -> int) list",
                    "type t val id : t -> t exception X of t", "type t val l : t list",
                    "eqtype t val same : t -> bool", ""):
            self.assertIs(refusal(struct, sig), None, sig)
        # A wanted type that does not admit equality is not covered by a marked variable.
        self.assertEqual(refusal(struct, "val same : exn -> bool"), ("unlike", "value", ("same",)))
        self.assertEqual(refusal("type t = int -> int val same = fn z => z = z end", "type t val same : t -> bool"), ("unlike", "value", ("same",)))
        # A type that stands twice must be one.
        self.assertIs(refusal("type a = int type b = int", "type a type b = a"), None)
        self.assertEqual(refusal("type a = int type b = string", "type a type b = a"), ("unlike", "type", ("b",)))

    def test_the_first_item_is_told(self):
        self.assertEqual(refusal("val x = 1 val y = 2", "val y : string val x : string"), ("unlike", "value", ("y",)))
        self.assertEqual(refusal("val x = 1", "structure S : sig val z : int end val x : string"), ("lacks", "structure", ("S",)))
        self.assertEqual(refusal("val y = 1 structure S = struct end", "structure S : sig val z : int end val x : string"), ("lacks", "value", ("S", "z")))

    def test_groups(self):
        struct = "datatype d = D of e | N and e = E of d"
        self.assertIs(refusal(struct, struct), None)
        # All types are looked at ahead of their constructors.
        self.assertEqual(refusal(struct, "datatype d = M and e = E of d and f = F"), ("lacks", "data", ("f",)))
        self.assertEqual(refusal(struct, "datatype d = M and 'a e = E of d"), ("unlike", "data", ("e",)))
        self.assertEqual(refusal(struct, "datatype d = D of e | N and e = E of e | F"), ("unlike", "data", ("e",)))
        self.assertEqual(refusal(struct, "datatype e = E of d and d = D of e | N"), None)
        # In a signature the types of two groups can be taken apart, and those of one group.
        self.assertIs(refusal("datatype d = D of int datatype e = E of d", "datatype d = D of int and e = E of d"), None)
        self.assertEqual(refusal("datatype d = D of e | N and e = E of d", "type e datatype d = D of e | N"), None)

    def test_constructors_beside_their_types(self):
        book, one = declared_group(Book(), BASE, read_declaration("datatype d = D of int | E")[1])
        book, want = signed("sig datatype d = D of int | E end", book)
        good = one
        self.assertEqual(matched(book, good, want), {8: (0, made(7))})
        for face in (good.with_exception("E", None), good.with_constructor("E", 7, 0), good.with_constructor("D", 7, 1),
                     Face().with_type("d", (0, made(7))), good.with_type("d", (0, made(3))), good.with_type("d", (0, made(5, INT)))):
            self.assertEqual(reason_of(matched, book, face, want), ("unlike", "data", ("d",)))
        # The type itself can be hidden by a copy.
        self.assertIs(refusal("datatype c = D of int | E type d = c", "datatype d = D of int | E"), None)
        self.assertEqual(refusal("structure S = struct datatype d = D of int | E end type d = S.d", "datatype d = D of int | E"),
                         ("unlike", "data", ("d",)))
        self.assertEqual(refusal("structure S = struct datatype d = D of int | E end type d = S.d", "type d"), None)

    def test_sizes(self):
        book, face, one = both("type t = int", "type t val x : int")
        big = Face().with_type("t", (1, ("tuple", (var(0),) * 200)))
        book, one = signed("sig type 'a t type v type w = v t t end", book)
        face = big.with_type("v", (0, INT)).with_type("w", (0, INT))
        for call, more in ((matched, ()), (fitted, ()), (sealed, ()), (is_matching, (None,))):
            with self.assertRaises(TooMany) as caught:
                call(book, face, one, *more)
            self.assertEqual(caught.exception.limit, 300)
        # An item ahead that does not match is told ahead.
        self.assertEqual(reason_of(matched, book, big, one), ("lacks", "type", ("v",)))

    def test_is_matching(self):
        book, face, one = both("type t = int type 'a u = 'a list datatype d = D", "type t type 'a u datatype d = D")
        t, u, d = one.bound
        good = matched(book, face, one)
        for value in (good, {key: good[key] for key in list(good)[::-1]}):
            self.assertIs(is_matching(book, face, one, value), True)
        for value in (*ODD, {}, {**good, t: (0, STRING)}, {**good, t: (1, INT)}, {**good, t: (False, INT)}, {**good, t: [0, INT]}, {**good, t: INT},
                      {**good, u: (1, made(5, INT))}, {**good, u: (2, made(5, var(0)))}, {**good, d: (0, made(d))}, {t: good[t], u: good[u]},
                      {**good, 99: (0, INT)}, {**good, True: (0, INT)}, {t: good[t], u: good[u], "d": good[d]}, list(good.items()),
                      {**good, t: (0, ("made", True, ()))}, {**good, d: (0, made(3))}):
            self.assertIs(is_matching(book, face, one, value), False, value)
        book, face, one = both("val x = 1", "val x : int")
        self.assertIs(is_matching(book, face, one, {}), True)
        book, face, one = both("val x = 1", "type t val x : t")
        for value in (*ODD, {}, {one.bound[0]: (0, INT)}):
            self.assertIs(is_matching(book, face, one, value), False)

    def test_arguments(self):
        book, face, one = both("val x = 1", "type t val x : int")
        for call, more in ((matched, ()), (is_matching, (None,)), (fitted, ()), (sealed, ())):
            self.assertRaises(InvalidBook, call, None, None, None, *more)
            self.assertRaises(InvalidFace, call, book, None, None, *more)
            self.assertRaises(InvalidFace, call, book, face.with_type("t", (0, made(99))), one, *more)
            for value in (*ODD, face):
                self.assertRaises(InvalidFace, call, book, face, value, *more)
            self.assertRaises(InvalidFace, call, Book(), face, one, *more)
        self.assertRaises(InvalidBook, is_below, None, one, one)
        for value in ODD:
            self.assertRaises(InvalidFace, is_below, book, value, one)
            self.assertRaises(InvalidFace, is_below, book, one, value)


class FittedTest(unittest.TestCase):
    def test_fitted_and_sealed(self):
        book, face, one = both("type t = int datatype d = D of t val x = 1 val y = D 1 val z = \"a\"", "type t datatype d = D of t val x : t val y : d")
        fit = fitted(book, face, one)
        self.assertEqual((fit.types, fit.tags, values(book, fit)), ({"d": (0, made(7)), "t": (0, INT)}, {"D": (7, 0)}, {"x": "int", "y": "d"}))
        before = len(book)
        more, seal = sealed(book, face, one)
        t, d = before + 1, before + 2
        self.assertEqual((len(book), len(more)), (before, before + 2))
        self.assertEqual(seal.types, {"d": (0, made(d)), "t": (0, made(t))})
        self.assertEqual((seal.tags, more.constructors(d), more.constructors(t)), ({"D": (d, 0)}, (("D", made(t)),), None))
        self.assertEqual((more.asks(t), more.asks(d)), (None, None))
        self.assertEqual(seal.schemes["x"].body, made(t))
        # Both match again, and two sealings are unlike.
        self.assertEqual(matched(book, fit, one), matched(book, face, one))
        self.assertEqual(matched(more, seal, one), {one.bound[0]: (0, made(t)), one.bound[1]: (0, made(d))})
        last, other = sealed(more, face, one)
        self.assertNotEqual(other, seal)
        self.assertEqual(other.schemes["x"].body, made(before + 3))

    def test_asks_of_new_stamps(self):
        book, face, one = both("type t = int type 'a u = 'a list datatype 'a d = D of 'a u", "eqtype t eqtype 'a u datatype 'a d = D of 'a u")
        more, seal = sealed(book, face, one)
        self.assertEqual([more.asks(seal.types[name][1][1]) for name in "tud"], [(), (0,), (0,)])

    def test_a_signature_decides_by_the_face_alone(self):
        one = structure("struct type t = int val x = 1 val y = 2 end")
        other = structure("struct val y = 1 + 1 type t = int val x = 3 + 4 * 5 end")
        self.assertEqual(one.face, other.face)
        book, want = signed("sig type t val x : t end")
        self.assertEqual(sealed(book, one.face, want), sealed(book, other.face, want))

    def test_order(self):
        _, a = signed("sig type t = int val x : int val f : 'a -> 'a end")
        book, b = signed("sig type t val x : t end")
        book, c = signed("sig type t end", book)
        book, d = signed("sig type t val x : t val f : int -> int end", book)
        for one, other, wanted in ((a, a, True), (b, b, True), (a, b, True), (b, a, False), (b, c, True), (c, b, False), (a, c, True), (a, d, True),
                                   (d, b, True), (d, a, False)):
            self.assertIs(is_below(book, one, other), wanted)
        book, e = signed("sig datatype t = A | B of int val x : t end", book)
        book, f = signed("sig eqtype t val x : t end", book)
        self.assertEqual([is_below(book, *pair) for pair in ((e, f), (f, e), (f, b), (b, f), (e, e))], [True, False, True, False, True])
        book, g = signed("sig structure S : sig type t end type u = S.t end", book)
        book, h = signed("sig type u structure S : sig type t end end", book)
        self.assertEqual([is_below(book, g, h), is_below(book, h, g), is_below(book, g, g)], [True, False, True])

    def test_the_least_one(self):
        texts = ("type t val x : t", "type t datatype d = D of t | N val y : d", "eqtype 'a u structure S : sig type v = int u exception E of v end",
                 "val f : 'a -> 'a", "datatype d = D of int | N type w = d", "")
        struct = """type t = int datatype d = D of int | N val x = 1 val y = N val f = fn z => z end type 'a u = 'a list
            structure S = struct type v = int list exception E of v end type w = d"""
        typed = structure(f"struct {struct} end")
        for text in texts:
            book, one = signed(f"sig {text} end", typed.book)
            fit = fitted(book, typed.face, one)
            least = bare(book, fit)
            self.assertEqual(least.bound, ())
            self.assertTrue(is_below(book, least, one))
            self.assertEqual(matched(book, fit, least), {})
            more, seal = sealed(book, typed.face, one)
            self.assertEqual(set(matched(more, seal, one)), set(one.bound))
            for other in texts:
                later, two = signed(f"sig {other} end", more)
                # If the face matches a signed face, the least one is below it.
                self.assertEqual(reason_of(matched, later, fit, two) is None, is_below(later, least, two))
                # If a face matches A, and A is below B, it matches B.
                if is_below(later, one, two):
                    self.assertIs(reason_of(matched, later, fit, two), None)
                    self.assertIs(reason_of(matched, later, seal, two), None)

    def test_bare_faces_of_bound_types(self):
        book, one = declared_group(Book(), BASE, read_declaration("datatype d = D of int")[1])
        least = bare(book, one)
        self.assertEqual(matched(book, one, least), {})
        # A group that is not bound must be this one.
        other, face = declared_group(book, BASE, read_declaration("datatype d = D of int")[1])
        self.assertEqual(reason_of(matched, other, face, least), ("unlike", "data", ("d",)))
        by_hand = Signed(book, one.with_value("x", Scheme(book, (), BOOL)), (7,), (("data", (("d",),)), ("value", ("x",))))
        self.assertEqual(reason_of(matched, other, face, by_hand), ("lacks", "value", ("x",)))
        self.assertEqual(matched(other, face.with_value("x", Scheme(book, (), BOOL)), by_hand), {7: (0, made(8))})
        self.assertEqual(types(book, Scope(BASE).face)["int"], "int")
        self.assertRaises(Refused, matched, Book(), Face(), signed("sig val x : int end", None, SCOPE)[1])


if __name__ == "__main__":
    unittest.main()
