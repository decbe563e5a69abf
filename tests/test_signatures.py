import unittest

from letquay.data.faces import Face, base_face
from letquay.data.looking import declared_group
from letquay.errors import InvalidBook, InvalidFace, InvalidOperation, InvalidScope, InvalidTree, Refused, TooMany
from letquay.modules.functors import typed_functor
from letquay.modules.matching import is_below
from letquay.modules.scopes import Scope
from letquay.modules.signatures import Signed, bare, signed_face
from letquay.text.reader import read_declaration, read_signature, read_structure, read_type
from letquay.text.trees import is_signature
from letquay.types.books import Book
from letquay.types.schemes import Scheme
from tests.module_tools import BASE, BOOL, INT, SCOPE, STRING, made, reason_of, signed, types, values, var
from tests.odd import ODD


def refusal(text, scope=SCOPE, book=None):
    return reason_of(signed, text, book, scope)


class ScopeTest(unittest.TestCase):
    def test_properties(self):
        book, one = signed("sig type t end")
        book, functor = typed_functor(book, SCOPE, "X", read_signature("sig end"), read_structure("struct end"))
        scope = Scope(BASE, signatures={"T": one, "A": one}, functors={"F": functor})
        self.assertEqual((scope.face, list(scope.signatures), scope.functors), (BASE, ["A", "T"], {"F": functor}))
        self.assertEqual((SCOPE.signatures, SCOPE.functors), ({}, {}))
        more = SCOPE.with_signature("T", one).with_signature("A", one).with_functor("F", functor)
        self.assertEqual(more, scope)
        self.assertEqual((SCOPE.signatures, SCOPE.functors), ({}, {}))
        for other in (SCOPE, scope.with_face(Face()), scope.with_signature("B", one), scope.with_functor("B", functor),
                      scope.with_signature("A", signed("sig end")[1]), 1, None, BASE):
            self.assertTrue(scope != other and not scope == other)
        table = scope.signatures
        table["C"] = 1
        self.assertEqual(list(scope.signatures), ["A", "T"])
        with self.assertRaises(TypeError):
            iter(scope)
        opened = scope.opened(Face().with_exception("E", None))
        self.assertEqual((opened.face, opened.signatures), (BASE.with_exception("E", None), scope.signatures))
        self.assertNotIn(("E",), scope.face)

    def test_errors(self):
        one = signed("sig end")[1]
        for value in ODD:
            self.assertRaises(InvalidFace, Scope, value)
            self.assertRaises(InvalidFace, SCOPE.with_face, value)
            self.assertRaises(InvalidFace, SCOPE.opened, value)
            if value is not None and value != {}:
                self.assertRaises(InvalidScope, Scope, BASE, signatures=value)
                self.assertRaises(InvalidScope, Scope, BASE, functors=value)
            self.assertRaises(InvalidScope, Scope, BASE, signatures={"A": value})
            self.assertRaises(InvalidScope, Scope, BASE, functors={"A": value})
            self.assertRaises(InvalidScope, SCOPE.with_signature, "A", value)
            self.assertRaises(InvalidScope, SCOPE.with_functor, "A", value)
            if value != "X" and not isinstance(value, (list, dict)):
                self.assertRaises(InvalidScope, SCOPE.with_signature, value, one)
        self.assertRaises(InvalidScope, Scope, BASE, signatures={"a": one})
        self.assertRaises(InvalidScope, Scope, BASE, functors={"A": one})
        self.assertRaises(InvalidFace, Scope, 1, signatures=1)
        Scope(BASE, signatures={}, functors=None)


class MeaningTest(unittest.TestCase):
    def test_example_of_the_document(self):
        _, found = signed("sig type t val next : t -> t end")
        self.assertEqual((found.bound, found.entries), ((7,), (("type", ("t",)), ("value", ("next",)))))

    def test_each_spec(self):
        book, found = signed("""sig
            type t eqtype ('a, 'b) u type 'a w = ('a, t) u list val x : ''a -> 'b -> t
            datatype 'a d = D of 'a * t | E and e = F of e d | G
            exception Out exception With of t
            structure S : sig type t val y : t end
            val z : S.t end""")
        self.assertEqual(found.entries, (
            ("type", ("t",)), ("type", ("u",)), ("type", ("w",)), ("value", ("x",)), ("data", (("d",), ("e",))),
            ("exception", ("Out",)), ("exception", ("With",)), ("structure", ("S",)), ("type", ("S", "t")),
            ("value", ("S", "y")), ("value", ("z",))))
        self.assertEqual((found.bound, len(found)), ((7, 8, 9, 10, 11), 11))
        self.assertEqual([(book.printed(n), book.arity(n), book.asks(n)) for n in found.bound], [
            ("t", 0, None), ("u", 2, (0, 1)), ("d", 1, None), ("e", 0, None), ("t", 0, None)])
        self.assertEqual([book.constructors(n) for n in (7, 8, 11)], [None] * 3)
        self.assertEqual(book.constructors(9), (("D", ("tuple", (var(0), made(7)))), ("E", None)))
        self.assertEqual(values(book, found.face), {"x": "''a -> 'b -> t", "z": "t"})
        self.assertEqual(found.face.value(("z",)).body, made(11))
        self.assertEqual(found.face.types["w"], (1, made(5, made(8, var(0), made(7)))))
        self.assertEqual((found.face.exceptions, found.face.tags["G"]), ({"Out": None, "With": made(7)}, (10, 1)))
        self.assertEqual(list(found.face.structures["S"]), [("type", "t"), ("value", "y")])

    def test_asks_of_groups(self):
        book, found = signed("sig eqtype t type u datatype 'a d = D of 'a * t datatype e = E of u end")
        self.assertEqual([book.asks(n) for n in found.bound], [(), None, (0,), None])

    def test_earlier_specs_hide_the_scope(self):
        book, found = signed("sig val a : int end")
        self.assertEqual(values(book, found.face), {"a": "int"})
        face = BASE.with_type("t", (0, INT)).with_structure("S", Face().with_type("t", (0, STRING)))
        book, found = signed("sig val a : t val b : S.t type t structure S : sig type t = t list end val c : t val d : S.t end",
                             scope=Scope(face))
        self.assertEqual([found.face.value((x,)).body for x in "abcd"], [INT, STRING, made(7), made(5, made(7))])
        # What a structure in it declares is not seen outside of it.
        self.assertEqual(refusal("sig structure S : sig type t end val x : t end"), ("unbound", (1, 1, 2), ("t",)))

    def test_inclusions_and_names(self):
        book, one = signed("sig type t datatype d = A | B of t val x : d structure S : sig type u end end")
        scope = SCOPE.with_signature("N", one)
        book, found = signed("sig val y : int include N val z : t -> d -> S.u end", book, scope)
        self.assertEqual(found.entries, (
            ("value", ("y",)), ("type", ("t",)), ("data", (("d",),)), ("value", ("x",)), ("structure", ("S",)),
            ("type", ("S", "u")), ("value", ("z",))))
        self.assertEqual((one.bound, found.bound), ((7, 8, 9), (10, 11, 12)))
        self.assertEqual(book.constructors(11), (("A", None), ("B", made(10))))
        self.assertEqual(found.face.value(("z",)).body, ("fn", made(10), ("fn", made(11), made(12))))
        # Each naming has bound stamps of its own.
        book, found = signed("sig structure A : N structure B : N end", book, scope)
        self.assertEqual((found.bound, len(found)), ((13, 14, 15, 16, 17, 18), 12))
        self.assertEqual(one.bound, (7, 8, 9))
        book, found = signed("N", book, scope)
        self.assertEqual((found.bound, found.entries), ((19, 20, 21), one.entries))

    def test_names_that_stand_twice(self):
        book, one = signed("sig type t val x : int datatype d = D | E of t end")
        scope = SCOPE.with_signature("N", one)
        for text, place, name in (
                ("val x : int val x : int", (1, 1), "x"), ("type t type t", (1, 1), "t"), ("type t eqtype 'a t", (1, 1), "t"),
                ("type t type t = int", (1, 1), "t"), ("type t datatype t = A", (1, 1), "t"), ("exception A exception A", (1, 1), "A"),
                ("datatype t = A exception A", (1, 1), "A"), ("exception A datatype t = B | A", (1, 1), "A"),
                ("datatype t = A datatype u = B | A", (1, 1), "A"), ("structure S : sig end structure S : sig end", (1, 1), "S"),
                ("include N include N", (1, 1), "t"), ("val x : int include N", (1, 1), "x"), ("exception E include N", (1, 1), "E"),
                ("include N val y : int exception D", (1, 2), "D"), ("structure S : sig val x : int val x : int end", (1, 0, 2, 1, 1), "x"),
                ("type int", (1, 0), "int"), ("type bool = int", (1, 0), "bool"), ("eqtype 'a list", (1, 0), "list"),
                ("exception Match", (1, 0), "Match"), ("exception Nil of int", (1, 0), "Nil"), ("datatype exn = A", (1, 0, 1, 0), "exn"),
                ("datatype t = A | Cons", (1, 0, 1, 0, 2, 1), "Cons"), ("datatype t = A and u = A", (1, 0, 1, 1, 2, 0), "A"),
                ("datatype t = A and t = B", (1, 0, 1, 1), "t"), ("type t datatype d = A and t = A", (1, 1, 1, 1, 2, 0), "A"),
                ("exception A datatype d = A and d = B", (1, 1, 1, 1), "d")):
            self.assertEqual(refusal(f"sig {text} end", scope, book), ("twice", place, name), text)
        for text in ("type x val x : int exception X structure X : sig end", "structure A : sig type t end type t",
                     "val match : int exception Int"):
            self.assertIs(refusal(f"sig {text} end", scope, book), None, text)

    def test_other_refusals(self):
        book, one = signed("sig type t end")
        scope = SCOPE.with_signature("N", one)
        for text, reason in (
                ("No", ("unbound", (), ("No",))), ("sig include No end", ("unbound", (1, 0, 1), ("No",))),
                ("sig structure S : No end", ("unbound", (1, 0, 2), ("No",))), ("No where type t = int", ("unbound", (1,), ("No",))),
                ("sig val x : no end", ("unbound", (1, 0, 2), ("no",))), ("sig val x : int -> no list end", ("unbound", (1, 0, 2, 2, 2, 0), ("no",))),
                ("sig val x : list end", ("arity", (1, 0, 2), ("list",))), ("sig type 'a t = 'b end", ("unbound", (1, 0, 3), ("b",))),
                ("sig type t = int int end", ("arity", (1, 0, 3), ("int",))), ("sig exception E of no end", ("unbound", (1, 0, 2), ("no",))),
                ("sig datatype t = A of no end", ("unbound", (1, 0, 1, 0, 2, 0, 1), ("no",))),
                ("sig datatype t = A of t end", ("empty", (1, 0, 1, 0), "t")),
                ("sig datatype t = A of t | B and u = C of u end", ("empty", (1, 0, 1, 1), "u")),
                # A spec stands behind its types; the first part in the order of the text is told.
                ("sig val x : int val x : no end", ("unbound", (1, 1, 2), ("no",))), ("sig exception Match of no end", ("unbound", (1, 0, 2), ("no",))),
                ("sig type t type t = no end", ("unbound", (1, 1, 3), ("no",))), ("sig type t val x : no type t end", ("unbound", (1, 1, 2), ("no",))),
                ("sig structure S : sig end structure S : No end", ("unbound", (1, 1, 2), ("No",))),
                ("sig type t datatype t = A of no end", ("unbound", (1, 1, 1, 0, 2, 0, 1), ("no",))),
                ("sig datatype t = A of no and t = B end", ("twice", (1, 0, 1, 1), "t"))):
            self.assertEqual(refusal(text, scope, book), reason, text)

    def test_sizes(self):
        face = BASE.with_type("big", (0, ("tuple", (INT,) * 200)))
        with self.assertRaises(TooMany) as caught:
            signed("sig val x : big -> big end", scope=Scope(face))
        self.assertEqual(caught.exception.limit, 300)
        self.assertEqual(reason_of(signed, "sig val x : no val y : big -> big end", None, Scope(face)), ("unbound", (1, 0, 2), ("no",)))
        names = ["abcdefghij"[a] + "abcdefghij"[b] + "abcdefghij"[c] for a in range(10) for b in range(10) for c in range(7)]
        many = Face()
        for name in names:
            many = many.with_value("x" + name, Scheme(Book(), (), INT))
        entries = tuple(("value", path) for path in [(name,) for kind, name in many])
        one = Signed(Book(), many, (), entries)
        scope = SCOPE.with_signature("N", one)
        self.assertEqual(len(signed("sig structure A : N structure B : N end", scope=scope)[1]), 1402)
        with self.assertRaises(TooMany) as caught:
            signed("sig structure A : N structure B : N structure C : N end", scope=scope)
        self.assertEqual(caught.exception.limit, 2000)

    def test_arguments(self):
        tree = read_signature("sig end")
        far = Scope(BASE.with_type("t", (0, made(9))))
        later = signed("sig type t end", Book().with_stamps((("a", 0, (), None),) * 9)[0])[1]
        self.assertRaises(InvalidBook, signed_face, None, None, None)
        for scope in (None, 1, BASE, far, SCOPE.with_signature("N", later)):
            self.assertRaises(InvalidScope, signed_face, Book(), scope, None)
        for value in ODD:
            if not is_signature(value):
                self.assertRaises(InvalidTree, signed_face, Book(), SCOPE, value)
        book, found = signed_face(Book(), SCOPE, tree)
        self.assertEqual((book, len(found), found.bound, found.face), (Book(), 0, (), Face()))

    def test_nothing_changes(self):
        book, one = signed("sig type t datatype d = D of t end")
        scope = SCOPE.with_signature("N", one)
        before = (len(book), str(one.face), one.bound, one.entries, list(scope.signatures))
        self.assertIsNotNone(refusal("sig include N val x : no end", scope, book))
        signed("N where type t = int", book, scope)
        self.assertEqual((len(book), str(one.face), one.bound, one.entries, list(scope.signatures)), before)


class WhereTest(unittest.TestCase):
    def test_at_the_top(self):
        book, found = signed("sig type t type 'a u val x : t -> int u type v = t list end where type t = int where type 'a u = 'a * 'a")
        self.assertEqual(found.bound, ())
        self.assertEqual(values(book, found.face), {"x": "int -> int * int"})
        self.assertEqual(found.face.types, {"t": (0, INT), "u": (1, ("tuple", (var(0), var(0)))), "v": (0, made(5, INT))})
        self.assertEqual(found.entries, (("type", ("t",)), ("type", ("u",)), ("value", ("x",)), ("type", ("v",))))

    def test_in_inclusions_and_structures(self):
        book, one = signed("sig type t type u val x : t -> u end")
        scope = SCOPE.with_signature("N", one)
        book, found = signed("sig type a include N where type t = a structure S : N where type u = t end", book, scope)
        self.assertEqual(values(book, found.face), {"x": "a -> u"})
        self.assertEqual(found.face.value(("x",)).body, ("fn", made(found.bound[0]), made(found.bound[1])))
        self.assertEqual(found.face.value(("S", "x")).body, ("fn", made(found.bound[2]), made(found.bound[0])))
        self.assertEqual(len(found.bound), 3)
        book, found = signed("sig structure S : sig type t val x : t end end where type S.t = string", book, scope)
        self.assertEqual((found.bound, found.face.value(("S", "x")).body), ((), STRING))

    def test_groups_that_carry_it(self):
        book, found = signed("""sig type t datatype d = D of t datatype e = E of d | F datatype g = G of int
            val x : d -> e -> g exception No of e structure S : sig datatype h = H of e end end where type t = int""")
        self.assertEqual([(book.printed(n), book.asks(n)) for n in found.bound], [("d", ()), ("e", ()), ("g", ()), ("h", ())])
        d, e, g, h = found.bound
        self.assertEqual((book.constructors(d), book.constructors(e)), ((("D", INT),), (("E", made(d)), ("F", None))))
        self.assertEqual(found.face.value(("x",)).body, ("fn", made(d), ("fn", made(e), made(g))))
        self.assertEqual((found.face.tags, found.face.exceptions), (
            {"D": (d, 0), "E": (e, 0), "F": (e, 1), "G": (g, 0)}, {"No": made(e)}))
        self.assertEqual(found.face.structures["S"].tags, {"H": (h, 0)})
        # The group that does not carry it has the stamp that it had; the others have new ones.
        self.assertEqual((g, d > h or d > g, min(d, e, h) > g), (10, True, True))

    def test_asks_are_reckoned_anew(self):
        for word, T, asks in (("type", "int", (0,)), ("type", "int -> int", None), ("type", "string ref", (0,)), ("eqtype", "int", (0,))):
            book, found = signed(f"sig {word} t datatype 'a d = D of 'a * t end where type t = {T}")
            self.assertEqual(book.asks(found.bound[0]), asks)
        book, found = signed("sig eqtype 'a t datatype 'a d = D of 'a t end where type 'a t = 'a ref")
        self.assertEqual(book.asks(found.bound[0]), ())
        # Types of one group go together: the asks of one hang on the other.
        book, found = signed("sig type t datatype d = D of e | N and e = E of t * d end where type t = int")
        self.assertEqual([book.asks(n) for n in found.bound], [(), ()])
        d, e = found.bound
        self.assertEqual(book.constructors(d)[0], ("D", made(e)))

    def test_refusals(self):
        sig = "sig type t type 'a u eqtype e datatype d = D type v = int structure S : sig type t end val x : t end"
        for text, path in (
                ("type d = int", ("d",)), ("type v = int", ("v",)), ("type no = int", ("no",)), ("type S.no = int", ("S", "no")),
                ("type T.t = int", ("T", "t")), ("type 'a t = int", ("t",)), ("type u = int", ("u",)), ("type ('a, 'b) u = int", ("u",)),
                ("type e = int -> int", ("e",)), ("type e = exn", ("e",)), ("type int = int", ("int",)), ("type ref = int", ("ref",)),
                ("type x = int", ("x",))):
            self.assertEqual(refusal(f"{sig} where {text}"), ("where", (), path), text)
        for text in ("type e = int", "type e = (int -> int) ref", "type 'a u = 'a -> 'a", "type S.t = int", "type t = int -> int"):
            self.assertIs(refusal(f"{sig} where {text}"), None, text)
        self.assertEqual(refusal(f"{sig} where type t = int where type t = int"), ("where", (), ("t",)))
        self.assertEqual(refusal(f"sig include {sig} where type no = int end"), ("where", (1, 0, 1), ("no",)))
        self.assertEqual(refusal(f"sig structure S : {sig} where type no = int end"), ("where", (1, 0, 2), ("no",)))
        # T is read outside of the signature.
        self.assertEqual(refusal(f"{sig} where type t = v"), ("unbound", (4,), ("v",)))
        self.assertEqual(refusal(f"{sig} where type 'a u = 'b"), ("unbound", (4,), ("b",)))
        self.assertEqual(refusal(f"{sig} where type t = int list list ref int"), ("arity", (4,), ("int",)))
        self.assertEqual(refusal("sig val x : no end where type t = nope"), ("unbound", (1, 1, 0, 2), ("no",)))
        # The path stands ahead of the new type in the text.
        self.assertEqual(refusal(f"{sig} where type no = v"), ("where", (), ("no",)))
        self.assertEqual(refusal(f"{sig} where type 'a e = v"), ("where", (), ("e",)))
        self.assertEqual(refusal(f"{sig} where type e = v -> int"), ("unbound", (4, 1), ("v",)))
        # A parameter that admits equality is enough for an `eqtype`.
        self.assertIs(refusal("sig eqtype 'a t end where type 'a t = 'a list"), None)
        self.assertEqual(refusal("sig eqtype 'a t end where type 'a t = 'a -> int"), ("where", (), ("t",)))

    def test_groups_that_do_not_live_any_more(self):
        text = "sig type 'a t datatype d = D of d t end where type 'a t = "
        self.assertEqual(refusal(text + "'a"), ("empty", (), "d"))
        self.assertIs(refusal(text + "'a list"), None)

    def test_sizes(self):
        with self.assertRaises(TooMany) as caught:
            signed("sig type 'a t val x : " + "int" + " t" * 9 + " end where type 'a t = 'a * 'a")
        self.assertEqual(caught.exception.limit, 300)
        self.assertEqual(len(signed("sig type 'a t val x : " + "int" + " t" * 7 + " end where type 'a t = 'a * 'a")[1]), 2)
        # What is not used can be as great as it wants.
        signed("sig type 'a t type 'a u val x : " + "int" + " t" * 9 + " u end where type 'a u = int")


class SignedTest(unittest.TestCase):
    def setUp(self):
        self.book, self.one = signed("sig type t type 'a u datatype d = D of t val x : t -> int u -> d exception E of t structure S : sig "
                                     "type w = t list end end")

    def test_put(self):
        t, u, d = self.one.bound
        book, face = declared_group(self.book, BASE, read_declaration("datatype c = D of int")[1])
        face = self.one.put({d: (0, made(len(book))), t: (0, INT), u: (1, made(5, var(0)))})
        self.assertEqual(face.value(("x",)).body, ("fn", INT, ("fn", made(5, INT), made(len(book)))))
        self.assertEqual((face.types, face.tags, face.exceptions), (
            {"d": (0, made(len(book))), "t": (0, INT), "u": (1, made(5, var(0)))}, {"D": (len(book), 0)}, {"E": INT}))
        self.assertEqual(face.maker(("S", "w")), (0, made(5, INT)))
        self.assertEqual(self.one.face.types["t"], (0, made(t)))
        # Variables of schemes are renumbered where a parameter does not stand in its maker.
        _, one = signed("sig type 'a u val x : ''a u -> ''b -> 'c u end")
        self.assertEqual(one.put({7: (1, INT)}).schemes["x"].marks, (0,))
        self.assertEqual(one.put({7: (1, INT)}).schemes["x"].body, ("fn", INT, ("fn", var(0), INT)))

    def test_errors_of_put(self):
        t, u, d = self.one.bound
        good = {t: (0, INT), u: (1, var(0)), d: (0, made(d))}
        self.one.put(good)
        for value in (*ODD, {t: (0, INT)}, {**good, 99: (0, INT)}, {**good, t: (1, INT)}, {**good, u: (0, INT)}, {**good, t: INT},
                      {**good, t: (0, var(0))}, {**good, u: (1, var(1))}, {**good, d: (0, ("tuple", ()))}, {**good, d: (0, made(5, INT))},
                      {**good, t: (False, INT)}, {t: (0, INT), u: (1, var(0)), "d": (0, made(d))}, {t: (0, INT), u: (1, var(0)), True: (0, INT)}):
            self.assertRaises(InvalidOperation, self.one.put, value)
        with self.assertRaises(TooMany) as caught:
            self.one.put({**good, t: (0, ("tuple", (INT,) * 299))})
        self.assertEqual(caught.exception.limit, 300)

    def test_renewed(self):
        book, new = self.one.renewed(self.book)
        self.assertEqual((new.bound, new.entries, len(book)), ((10, 11, 12), self.one.entries, 12))
        self.assertEqual(new.face.value(("x",)).body, ("fn", made(10), ("fn", made(11, INT), made(12))))
        self.assertEqual([(book.printed(n), book.arity(n), book.asks(n)) for n in new.bound], [
            (self.book.printed(n), self.book.arity(n), self.book.asks(n)) for n in self.one.bound])
        self.assertEqual((book.constructors(12), new.face.tags), ((("D", made(10)),), {"D": (12, 0)}))
        self.assertEqual(new.face.structures["S"].types, {"w": (0, made(5, made(10)))})
        self.assertNotEqual(new, self.one)
        self.assertTrue(is_below(book, new, self.one) and is_below(book, self.one, new))
        self.assertRaises(InvalidBook, self.one.renewed, None)
        self.assertRaises(InvalidFace, self.one.renewed, Book())

    def test_made_by_hand(self):
        face = Face().with_type("t", (0, made(7))).with_value("x", Scheme(Book(), (), INT)).with_exception("E", None)
        book = self.book
        entries = (("value", ("x",)), ("type", ("t",)))
        one = Signed(book, face, (7,), entries)
        self.assertEqual((one.face, one.bound, one.entries, len(one)), (face, (7,), entries, 2))
        self.assertEqual(one, Signed(book, face, (7,), entries))
        for other in (Signed(book, face, (), entries), Signed(book, face, (7,), entries[::-1]),
                      Signed(book, face.with_exception("F", None), (7,), entries), 1, face):
            self.assertTrue(one != other and not one == other)
        self.assertRaises(InvalidBook, Signed, None, face, (7,), entries)
        for value in (*ODD, face.with_type("u", (0, made(99)))):
            self.assertRaises(InvalidFace, Signed, book, value, (7,), entries)
        for bound in (*ODD, (6,), (7, 7), (99,), (True,), [7], (1,)):
            if bound != ():
                self.assertRaises(InvalidOperation, Signed, book, face, bound, entries)
        for bad in (*ODD, (("value", ("y",)),), (("type", ("x",)),), (("data", (("t",),)),), (("exception", ("X",)),),
                    (("structure", ("E",)),), (("what", ("x",)),), (("value", "x"),), (("value", ("x",), 1),), [("value", ("x",))],
                    (("data", ()),), (("value", ()),), (("value", ("X",)),), (("exception", ("x",)),)):
            if bad != ():
                self.assertRaises(InvalidOperation, Signed, book, face, (7,), bad)
        with self.assertRaises(TypeError):
            iter(one)
        two = BASE
        self.assertEqual(len(Signed(book, two, (), (("data", (("bool",), ("list",))), ("exception", ("Div",))))), 2)
        self.assertRaises(InvalidOperation, Signed, book, two, (), (("exception", ("True",)),))


class BareTest(unittest.TestCase):
    def test_items(self):
        book, face = declared_group(Book(), BASE, read_declaration("datatype t = A of int | B and u = C of t")[1])
        inner = face.with_value("y", Scheme(book, (), INT))
        face = face.with_exception("B", None).with_structure("S", inner).with_value("x", Scheme(book, (), INT))
        face = face.with_type("w", (0, ("tuple", ()))).with_type("b", (0, BOOL)).with_structure("R", Face())
        one = bare(book, face)
        self.assertEqual(one.entries, (
            ("data", (("u",),)), ("exception", ("B",)), ("structure", ("R",)), ("structure", ("S",)), ("data", (("S", "t"),)),
            ("data", (("S", "u"),)), ("value", ("S", "y")), ("type", ("b",)), ("type", ("t",)), ("type", ("w",)), ("value", ("x",))))
        self.assertEqual((one.bound, one.face), ((), face))
        self.assertEqual(bare(book, Face()).entries, ())
        kinds = [entry[0] for entry in bare(Book(), base_face()).entries]
        self.assertEqual((kinds.count("data"), kinds.count("type"), kinds.count("exception")), (2, 4, 4))

    def test_a_type_of_parameters_beside_its_constructors(self):
        book, face = declared_group(Book(), BASE, read_declaration("datatype ('a, 'b) t = A of 'a * 'b")[1])
        self.assertEqual(bare(book, face).entries, (("data", (("t",),)),))
        turned = face.with_type("t", (2, made(7, var(1), var(0))))
        self.assertEqual(bare(book, turned).entries, (("type", ("t",)),))

    def test_errors(self):
        self.assertRaises(InvalidBook, bare, None, None)
        for value in ODD:
            self.assertRaises(InvalidFace, bare, Book(), value)
        self.assertRaises(InvalidFace, bare, Book(), Face().with_type("t", (0, made(7))))

    def test_types_of_trees(self):
        self.assertEqual(read_type("int"), ("con", ("int",), ()))
        self.assertEqual(types(Book(), Face().with_type("t", (0, INT))), {"t": "int"})
        self.assertTrue(issubclass(Refused, ArithmeticError))


if __name__ == "__main__":
    unittest.main()
