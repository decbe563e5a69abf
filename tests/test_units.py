"""Units and their faces: promises [11.1] to [11.3], part 11a."""

import unittest

from letquay.data.faces import Face
from letquay.errors import InvalidFace, InvalidUnit, Refused, TooMany
from letquay.modules.programs import typed_unit
from letquay.text.reader import read_signature, read_unit
from letquay.types.books import Book
from letquay.units.units import MAX_UNITS, Compiled, Unit, UnitFace, compiled_unit, face_of_unit
from tests.odd import ODD

CELL = Unit("Cell", (), read_unit("datatype t = A | B of int val one = 1"))


def unit(name, uses, text, signature=None):
    return Unit(name, uses, read_unit(text), signature=None if signature is None else read_signature(signature))


def made(stamp, *args):
    return ("made", stamp, args)


def reason_of(call, *args):
    try:
        call(*args)
    except Refused as refused:
        return refused.reason
    return None


def rows(book):
    """The rows of a book behind the first six."""
    return [(book.printed(s), book.arity(s), book.asks(s), book.constructors(s)) for s in range(7, len(book) + 1)]


class UnitTest(unittest.TestCase):
    def test_wrong_units(self):
        tree = read_unit("val x = 1")
        for odd in ODD:
            if odd != "X":
                self.assertRaises(InvalidUnit, Unit, odd, (), tree)
            if odd not in ((), ("X",)):
                self.assertRaises(InvalidUnit, Unit, "U", odd, tree)
            if odd != ():
                self.assertRaises(InvalidUnit, Unit, "U", (), odd)
                self.assertRaises(InvalidUnit, CELL.with_declarations, odd)
            if odd is not None:
                self.assertRaises(InvalidUnit, Unit, "U", (), tree, signature=odd)
                self.assertRaises(InvalidUnit, CELL.with_signature, odd)
        for uses in (("A", "A"), ("U",), ("a",), ["A"], ("A", 1), ("A", "B", "C", "D", "E", "F", "G", "H")):
            self.assertRaises(InvalidUnit, Unit, "U", uses, tree)
        Unit("U", ("G", "B", "C", "D", "E", "F", "A"), tree)
        self.assertEqual(MAX_UNITS, 8)

    def test_what_a_unit_tells(self):
        found = unit("Stack", ("Cell",), "val x = 1 val y = (1, 2)", "sig val x : int end")
        self.assertEqual((found.name, found.uses, found.declarations, found.signature, found.nodes), (
            "Stack", ("Cell",), read_unit("val x = 1 val y = (1, 2)"), read_signature("sig val x : int end"), 11))
        self.assertEqual(str(found), "unit Stack: 2 declarations, 1 uses")
        self.assertEqual(found.with_signature(None), Unit("Stack", ("Cell",), found.declarations))
        self.assertEqual(found.with_declarations(()).declarations, ())
        self.assertEqual(found.with_declarations(()).signature, found.signature)
        self.assertTrue(found == unit("Stack", ("Cell",), "val x = 1 val y = (1, 2)", "sig val x : int end"))
        for other in (unit("S", ("Cell",), "val x = 1 val y = (1, 2)", "sig val x : int end"), found.with_signature(None), found.with_declarations(()),
                      Unit("Stack", (), found.declarations, signature=found.signature), *ODD):
            self.assertTrue(found != other)


class FaceTest(unittest.TestCase):
    def test_canonical_order(self):
        found = face_of_unit(unit("U", (), """
            datatype c = C of b and b = B of a and a = A
            datatype 'a w = W of 'a
            val z = fn x => (x : b w) end"""), {})
        self.assertEqual([row[0] for row in rows(found.book)], ["a", "b", "c", "w"])
        self.assertEqual(found.origins, (("U", 0), ("U", 1), ("U", 2), ("U", 3)))
        self.assertEqual(found.book.constructors(8), (("B", made(7)),))
        self.assertEqual(found.face.schemes["z"].body, ("fn", made(10, made(8)), made(10, made(8))))
        self.assertEqual(len(found), len(found.face))

    def test_items_as_iteration_yields_them(self):
        found = face_of_unit(unit("U", (), """
            structure S = struct datatype q = Q end datatype e = Z of S.q exception X of e
            structure P = struct datatype v = V end type y = P.v list datatype u = K"""), {})
        self.assertEqual([row[0] for row in rows(found.book)], ["u", "e", "q", "v"])
        self.assertEqual(found.face.types["y"], (0, made(5, made(10))))
        found = face_of_unit(unit("U", (), "structure A = struct datatype a = A end structure B = struct datatype b = B of c and c = C end val x = (B.C, A.A)"), {})
        self.assertEqual([row[0] for row in rows(found.book)], ["a", "b", "c"])

    def test_a_stamp_that_comes_only_inside_of_constructors(self):
        used = unit("Cell", (), "structure S = struct datatype a = A of int end datatype b = B of S.a")
        cell = face_of_unit(used, {})
        found = face_of_unit(unit("U", ("Cell",), "val x = fn Cell.B y => 1 end"), {"Cell": cell})
        self.assertEqual(([row[0] for row in rows(found.book)], found.origins), (["b", "a"], (("Cell", 0), ("Cell", 1))))
        self.assertEqual(cell.origins, (("Cell", 0), ("Cell", 1)))

    def test_abstract_types(self):
        found = face_of_unit(unit("U", (), "type t = int type 'a s = 'a list val z = 1 val e = []", "sig type 'a s eqtype t val z : t val e : 'a s end"), {})
        self.assertEqual(rows(found.book), [("s", 1, None, None), ("t", 0, (), None)])
        self.assertEqual(str(found.face.schemes["e"].body), str(made(7, ("var", 0))))
        hidden = face_of_unit(unit("U", (), "datatype t = A val x = 1", "sig val x : int end"), {})
        self.assertEqual((rows(hidden.book), hidden.origins, hidden.book), ([], (), Book()))

    def test_origins_of_other_units(self):
        cell = face_of_unit(CELL, {})
        two = face_of_unit(unit("Two", ("Cell",), "datatype u = U of Cell.t val c = Cell.A"), {"Cell": cell})
        self.assertEqual(two.origins, (("Two", 0), ("Cell", 0)))
        three = face_of_unit(unit("Three", ("Two", "Cell"), "datatype d = D val x = (D, Two.c = Cell.A, Two.U Cell.A)"), {"Cell": cell, "Two": two})
        self.assertEqual(three.origins, (("Three", 0), ("Two", 0), ("Cell", 0)))
        alone = face_of_unit(unit("Four", ("Two",), "val c = Two.c"), {"Two": two, "Other": cell})
        self.assertEqual((alone.origins, [row[0] for row in rows(alone.book)]), ((("Cell", 0),), ["t"]))

    def test_equal_and_unlike_faces(self):
        one = face_of_unit(CELL, {})
        same = face_of_unit(CELL.with_declarations(read_unit("val one = 2 + 3 datatype t = A | B of int")), {})
        self.assertTrue(one == same)
        for text in ("datatype t = A | B of int val one = True", "datatype t = B of int | A val one = 1", "datatype s = A | B of int val one = 1",
                     "datatype t = A | B of int val one = 1 val two = 1"):
            self.assertTrue(one != face_of_unit(CELL.with_declarations(read_unit(text)), {}), text)
        self.assertTrue(one != face_of_unit(Unit("Other", (), CELL.declarations), {}))
        for odd in ODD:
            self.assertFalse(one == odd)
        user = unit("U", ("Cell",), "val x = Cell.one")
        number = face_of_unit(user, {"Cell": one})
        truth = face_of_unit(user, {"Cell": face_of_unit(CELL.with_declarations(read_unit("val one = True")), {})})
        self.assertTrue(number != truth)

    def test_scope(self):
        cell = face_of_unit(CELL, {})
        user = unit("U", (), "val x = Cell.one")
        self.assertEqual(reason_of(face_of_unit, user, {"Cell": cell}), ("unbound", (0, 2), ("Cell", "one")))
        self.assertEqual(reason_of(face_of_unit, unit("U", ("Cell",), "structure Cell = struct end"), {"Cell": cell}), ("twice", (0,), "Cell"))
        self.assertEqual(reason_of(face_of_unit, unit("U", ("Cell",), "val x = 1 val y = U.x"), {"Cell": cell}), ("unbound", (1, 2), ("U", "x")))
        self.assertEqual(reason_of(compiled_unit, unit("U", (), "type s = int val x = 1", "sig val x : s end"), {}), ("unbound", ("signature", 1, 0, 2), ("s",)))
        sealed = face_of_unit(unit("U", ("Cell",), "val x = Cell.B 1", "sig val x : Cell.t end"), {"Cell": cell})
        self.assertEqual(sealed.origins, (("Cell", 0),))
        self.assertEqual(reason_of(face_of_unit, unit("U", ("Cell",), "val x = 1", "sig val x : Cell.t end"), {"Cell": cell}), ("unlike", ("signature",), "value", ("x",)))


class CompiledTest(unittest.TestCase):
    def test_what_is_compiled(self):
        cell = compiled_unit(CELL, {})
        user = unit("Use", ("Cell",), "val two = case Cell.B 1 of Cell.A => 0 | Cell.B n => n + Cell.one end")
        found = compiled_unit(user, {"Cell": cell.face, "Other": cell.face})
        self.assertEqual((found.unit, found.face, list(found.faces), found.code.uses), (user, face_of_unit(user, {"Cell": cell.face}), ["Cell"], ("Cell",)))
        self.assertTrue(found.faces["Cell"] == cell.face)
        self.assertEqual(found.program.declarations, user.declarations)
        self.assertTrue(isinstance(found, Compiled) and isinstance(found.face, UnitFace))
        self.assertTrue(found == compiled_unit(user, {"Cell": cell.face}))
        self.assertTrue(found != compiled_unit(user.with_signature(read_signature("sig val two : int end")), {"Cell": cell.face}))
        for odd in ODD:
            self.assertFalse(found == odd)
        found.faces.clear()
        self.assertEqual(list(found.faces), ["Cell"])
        several = compiled_unit(unit("V", ("Z", "Cell"), "val x = Cell.one"), {"Cell": cell.face, "Z": face_of_unit(unit("Z", (), ""), {})})
        self.assertEqual((several.code.uses, list(several.faces)), (("Cell", "Z"), ["Cell", "Z"]))

    def test_a_client_hangs_on_the_face_alone(self):
        user = unit("Use", ("Cell",), "val x = Cell.get Cell.zero")
        codes = []
        for text in ("type t = int val zero = 1 val get = fn n => n end", "type t = string val zero = \"a\" val get = fn _ => 3 end val more = 1"):
            cell = compiled_unit(unit("Cell", (), text, "sig type t val zero : t val get : t -> int end"), {})
            codes.append((cell.face, compiled_unit(user, {"Cell": cell.face})))
        self.assertTrue(codes[0][0] == codes[1][0])
        self.assertTrue(codes[0][1] == codes[1][1] and codes[0][1].code == codes[1][1].code)

    def test_wrong_arguments(self):
        cell = face_of_unit(CELL, {})
        user = unit("Use", ("Cell",), "val x = 1")
        for call in (face_of_unit, compiled_unit):
            for odd in ODD:
                self.assertRaises(InvalidUnit, call, odd, odd)
                self.assertRaises(InvalidFace, call, user, odd)
            for faces in ({}, {"cell": cell}, {"Cell": Face()}, {"Cell": cell, 1: cell}, {"Cell": cell, "Other": None}, [("Cell", cell)]):
                self.assertRaises(InvalidFace, call, user, faces)
            self.assertRaises(TooMany, call, unit("U", (), "".join(
                f"val {x} = ({y}, {y}, {y}) " for x, y in zip("abcdefgh", ("1", *"abcdefgh")))), {})

    def test_origins_that_are_told_unlike(self):
        one = face_of_unit(CELL, {})
        two = face_of_unit(CELL.with_declarations(read_unit("datatype t = A | B of string")), {})
        user = unit("Two", ("Cell",), "val c = Cell.A")
        old, new = face_of_unit(user, {"Cell": one}), face_of_unit(user, {"Cell": two})
        three = unit("Three", ("Cell", "Two"), "val x = 1")
        face_of_unit(three, {"Cell": one, "Two": old})
        face_of_unit(three, {"Cell": two, "Two": new})
        self.assertRaises(InvalidFace, face_of_unit, three, {"Cell": one, "Two": new})
        self.assertRaises(InvalidFace, compiled_unit, three, {"Cell": two, "Two": old})
        self.assertRaises(InvalidFace, face_of_unit, unit("Cell", ("Two",), "val x = 1"), {"Two": old})
        face_of_unit(unit("Cell", ("Plain",), "val x = 1"), {"Plain": face_of_unit(unit("Plain", (), ""), {}), "Two": old})

    def test_the_book(self):
        cell = face_of_unit(CELL, {})
        two = face_of_unit(unit("Two", ("Cell",), "val c = Cell.A datatype u = U"), {"Cell": cell})
        program = compiled_unit(unit("Three", ("Two", "Cell"), "datatype e = E"), {"Cell": cell, "Two": two}).program
        self.assertEqual(sorted(row[0] for row in rows(program.book)), ["e", "t", "u"])
        self.assertEqual(program.uses["Two"].schemes["c"].body, program.uses["Cell"].types["t"][1])
        self.assertEqual(program, typed_unit(read_unit("datatype e = E"), book=Book().with_stamps(tuple(
            (program.book.printed(s), program.book.arity(s), program.book.asks(s), program.book.constructors(s)) for s in (7, 8)))[0], uses=program.uses))


if __name__ == "__main__":
    unittest.main()
