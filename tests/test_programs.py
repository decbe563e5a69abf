import unittest

from letquay.data.faces import Face, base_face
from letquay.errors import InvalidBook, InvalidFace, InvalidTree, Refused, TooMany
from letquay.infer.declarations import is_derivation_of
from letquay.modules.programs import Program, typed_unit
from letquay.text.reader import read_declaration, read_signature, read_unit
from letquay.text.trees import is_signature, is_unit, part_at
from letquay.types.books import Book
from letquay.types.schemes import Scheme
from tests.module_tools import BASE, INT, made, reason_of, unit, values
from tests.odd import ODD


def refusal(text, **more):
    return reason_of(unit, text, **more)


class UnitTest(unittest.TestCase):
    def test_without_a_signature(self):
        found = unit("""val x = 1 signature N = sig type t val y : t end
            functor F(X : N) = struct datatype d = D of X.t val z = D X.y end
            structure A = F(struct type t = int val y = x end) structure B = F(struct type t = string val y = "a" end) :> sig type d val z : d end
            val w = (A.z, B.z) exception E datatype c = C""")
        self.assertIsInstance(found, Program)
        self.assertEqual(values(found.book, found.face), {"x": "int", "w": "d * d"})
        self.assertEqual(found.inner, found.face)
        self.assertEqual(list(found.face), [
            ("constructor", "C"), ("exception", "E"), ("structure", "A"), ("structure", "B"), ("type", "c"), ("value", "w"), ("value", "x")])
        self.assertEqual((list(found.signatures), list(found.functors), found.uses, found.signature), (["N"], ["F"], {}, None))
        self.assertEqual(found.signatures["N"].entries, (("type", ("t",)), ("value", ("y",))))
        self.assertEqual(found.functors["F"].parameter.entries, found.signatures["N"].entries)
        self.assertEqual(found.declarations[0], read_declaration("val x = 1"))
        self.assertNotEqual(*[found.face.structures[name].types["d"] for name in "AB"])
        empty = typed_unit(())
        self.assertEqual((empty.face, empty.book, empty.notes, empty.faces, empty.declarations), (Face(), Book(), (), (), ()))

    def test_with_a_signature(self):
        signature = read_signature("sig type t datatype d = D of t val x : t end")
        found = typed_unit(read_unit("type t = int datatype d = D of t val x = 1 val y = 2"), signature=signature)
        t, d = found.face.types["t"][1][1], found.face.types["d"][1][1]
        self.assertEqual(found.face.schemes["x"].body, made(t))
        self.assertEqual((found.book.constructors(t), found.book.constructors(d)), (None, (("D", made(t)),)))
        self.assertEqual(values(found.book, found.inner), {"x": "int", "y": "int"})
        self.assertEqual((found.signature, list(found.face.schemes)), (signature, ["x"]))

    def test_used_units(self):
        cell = unit("datatype t = A | B of int val one = 1 structure S = struct val two = 2 end")
        found = typed_unit(read_unit("val x = case Cell.B Cell.one of Cell.B n => n + Cell.S.two | Cell.A => 0 end datatype u = U of Cell.t"),
                           book=cell.book, uses={"Cell": cell.face})
        self.assertEqual((values(found.book, found.face), found.uses), ({"x": "int"}, {"Cell": cell.face}))
        self.assertEqual(found.book.constructors(8), (("U", made(7)),))
        self.assertEqual(refusal("val x = Cell.one"), ("unbound", (0, 2), ("Cell", "one")))
        for text, place in (("structure Cell = struct end", (0,)), ("val x = 1 structure Cell = No", (1,))):
            self.assertEqual(refusal(text, book=cell.book, uses={"Cell": cell.face}), ("twice", place, "Cell"))
        self.assertIs(refusal("structure A = struct structure Cell = struct end end exception Cell", book=cell.book, uses={"Cell": cell.face}), None)
        # The client is typed by the face alone.
        other = unit("datatype t = A | B of int val one = 2 * 3 structure S = struct val two = one end")
        self.assertEqual(other.face, cell.face)

    def test_scope_of_the_signature(self):
        cell = unit("type t = int")
        more = {"book": cell.book, "uses": {"Cell": cell.face}}
        self.assertIs(refusal("val x = 1", signature=read_signature("sig val x : Cell.t end"), **more), None)
        for sig, reason in (
                ("sig val x : t end", ("unbound", ("signature", 1, 0, 2), ("t",))), ("N", ("unbound", ("signature",), ("N",))),
                ("sig val x : S.t end", ("unbound", ("signature", 1, 0, 2), ("S", "t"))), ("sig include N end", ("unbound", ("signature", 1, 0, 1), ("N",))),
                ("sig val no : int end", ("lacks", ("signature",), "value", ("no",))), ("sig val x : string end", ("unlike", ("signature",), "value", ("x",))),
                ("sig structure S : sig type u end end", ("lacks", ("signature",), "type", ("S", "u"))), ("sig type t type t end", ("twice", ("signature", 1, 1), "t")),
                ("sig type t end where type t = u", ("unbound", ("signature", 4), ("u",)))):
            text = "type t = int val x = 1 signature N = sig end structure S = struct type t = int end"
            self.assertEqual(refusal(text, signature=read_signature(sig), **more), reason, sig)
        # The declarations come ahead of the signature.
        self.assertEqual(refusal("val x = no", signature=read_signature("sig val x : no end")), ("unbound", (0, 2), ("no",)))

    def test_what_is_in_scope_behind_what(self):
        for text, reason in (
                ("structure S = struct end : N signature N = sig end", ("unbound", (0, 2, 2), ("N",))), ("structure S = F(struct end)", ("unbound", (0, 2), ("F",))),
                ("functor F(X : N) = struct end signature N = sig end", ("unbound", (0, 3), ("N",))), ("functor F(X : sig end) = F(X)", ("unbound", (0, 4), ("F",))),
                ("functor F(X : sig end) = X structure S = X", ("unbound", (1, 2), ("X",))), ("signature N = sig include N end", ("unbound", (0, 2, 1, 0, 1), ("N",))),
                ("signature N = sig val x : t end type t = int", ("unbound", (0, 2, 1, 0, 2), ("t",))), ("functor F(X : sig val x : t end) = X type t = int",
                                                                                                     ("unbound", (0, 3, 1, 0, 2), ("t",))),
                ("type t = int signature N = sig val x : t end functor F(X : N) = struct val y = X.x end structure A = F(struct val x = 1 end) val z = A.y", None),
                ("structure N = struct end signature N = sig end functor N(N : N) = N structure M = N(N) exception N", None),
                ("type t = int signature N = sig val x : t end structure S = struct type t = string structure T = struct val x = 1 end : N end", None)):
            self.assertEqual(refusal(text), reason, text)
        # What is opened hides structures, but neither signatures nor functors.
        self.assertIs(refusal("signature N = sig end structure A = struct structure N = struct end end open A structure B = N : N"), None)

    def test_names_declared_twice(self):
        for text, place, name in (
                ("signature N = sig end signature N = No", (1,), "N"), ("functor F(X : sig end) = X functor F(X : No) = X", (1,), "F"),
                ("type t = int type t = int", (1,), "t"), ("structure S = struct end structure S = No", (1,), "S"), ("exception Match", (0,), "Match")):
            self.assertEqual(refusal(text), ("twice", place, name), text)

    def test_places(self):
        for text, reason in (
                ("val x = 1 val y = no", ("unbound", (1, 2), ("no",))), ("structure S = struct val x = no end", ("unbound", (0, 2, 1, 0, 2), ("no",))),
                ("signature N = sig val x : no end", ("unbound", (0, 2, 1, 0, 2), ("no",))), ("functor F(X : sig val x : no end) = X", ("unbound", (0, 3, 1, 0, 2), ("no",))),
                ("functor F(X : sig end) = struct val x = no end", ("unbound", (0, 4, 1, 0, 2), ("no",))), ("functor F(X : sig end) = X :> sig type t end",
                                                                                                      ("lacks", (0, 4), "type", ("t",))),
                ("signature N = sig type t end where type u = int", ("where", (0, 2), ("u",))), ("functor F(X : sig type t type t end) = X", ("twice", (0, 3, 1, 1), "t")),
                ("functor F(X : sig type 'a t end) = struct datatype d = D of d X.t end structure S = F(struct type 'a t = 'a end)", ("empty", (1, 2), "d")),
                ("functor F(X : sig val x : int end) = X structure S = F(struct end)", ("lacks", (1, 2), "value", ("x",))), ("val x = ref []", ("open", (0, 1), "x"))):
            self.assertEqual(refusal(text), reason, text)

    def test_notes_and_faces(self):
        text = """val a = 1 functor F(X : sig val x : int end) = struct val b = X.x structure S = struct val c = b end end
            structure T = F(struct val x = a end) val rec f = fn x => x end"""
        found = unit(text)
        tree = read_unit(text)
        self.assertEqual([place for place, _ in found.notes], [(0,), (1, 4, 1, 0), (1, 4, 1, 1, 2, 1, 0), (2, 2, 2, 1, 0), (3,)])
        self.assertEqual([place for place, _ in found.faces], [(1, 4, 1, 1, 2), (1, 4), (2, 2, 2), (2, 2)])
        for place, note in found.notes:
            self.assertIn(part_at(tree, place)[0], ("val", "rec"))
        self.assertTrue(is_derivation_of(found.book, BASE, part_at(tree, (0,)), found.notes[0][1].derivation))
        self.assertEqual(found.faces[-1][1], found.face.structures["T"])
        self.assertEqual([place for place, _ in found.functors["F"].notes], [(1, 0), (1, 1, 2, 1, 0)])

    def test_equality_and_copies(self):
        text = "datatype t = A val x = 1"
        one = unit(text)
        self.assertEqual(one, unit(text))
        sig = read_signature("sig val x : int end")
        book = Book().with_stamps((("a", 0, (), None),))[0]
        for other in (unit("datatype t = A val x = 2"), unit("val x = 1"), unit(text, signature=sig), unit(text, uses={"S": Face()}), unit(text, book=book), 1, None):
            self.assertTrue(one != other and not one == other)
        for table in (one.uses, one.signatures, one.functors):
            table["X"] = 1
        self.assertEqual((one.uses, one.signatures, one.functors), ({}, {}, {}))
        uses = {"S": Face()}
        two = unit(text, uses=uses)
        uses["T"] = Face()
        self.assertEqual(list(two.uses), ["S"])
        with self.assertRaises(TypeError):
            iter(one)

    def test_arguments(self):
        for value in ODD:
            if not is_unit(value):
                self.assertRaises(InvalidTree, typed_unit, value, signature=1, book=1, uses=1)
            if value is not None and not is_signature(value):
                self.assertRaises(InvalidTree, typed_unit, (), signature=value, book=1, uses=1)
            if value is not None and not isinstance(value, Book):
                self.assertRaises(InvalidBook, typed_unit, (), book=value, uses=1)
            if value is not None and value != {}:
                self.assertRaises(InvalidFace, typed_unit, (), uses=value)
            self.assertRaises(InvalidFace, typed_unit, (), uses={"S": value})
        for uses in ({"s": Face()}, {1: Face()}, {"S": base_face().with_type("t", (0, made(7)))}, [("S", Face())]):
            self.assertRaises(InvalidFace, typed_unit, read_unit("val x = no"), uses=uses)
        big = Face().with_value("big", Scheme(Book(), (), ("tuple", (INT,) * 299)))
        with self.assertRaises(TooMany) as caught:
            unit("val x = (S.big, 1)", uses={"S": big})
        self.assertEqual(caught.exception.limit, 300)
        self.assertRaises(Refused, unit, "val x = no")


if __name__ == "__main__":
    unittest.main()
