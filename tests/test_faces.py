"""[3.1], [3.7] and part 3a: faces."""

import unittest

from letquay.data.faces import MAX_ITEMS, Face, base_face
from letquay.errors import (
    InvalidFace, InvalidNumber, InvalidOperation, InvalidScheme, InvalidType, TooMany, UnknownName,
)
from letquay.types.books import Book
from letquay.types.schemes import Scheme
from tests.odd import ODD, nested
from tests.typing_tools import BOOK, INT, STRING, UNIT, list_of, sized, var

A, B = var(0), var(1)
ONE = Scheme(BOOK, (), INT)
TWO = Scheme(BOOK, (), ("fn", A, ("made", 8, (A,))))
LOW_WRONG = ("X", "", "abcdefghi", "ref", "val", "unit", "x1", None, 1, True, ("x",), ["x"], {}, "x" * 1000)
HIGH_WRONG = ("x", "", "Abcdefghi", "X1", "ref", None, 1, True, ("X",), ["X"], {}, "X" * 1000)


def words(many):
    letters = "abcdefghijklmnopqrstuvwxyz"
    return [letters[n // 676] + letters[n // 26 % 26] + letters[n % 26] + "q" for n in range(many)]


def wide(many):
    face = Face()
    for name in words(many):
        face = face.with_value(name, ONE)
    return face


class FaceTest(unittest.TestCase):
    def setUp(self):
        inner = Face().with_value("v", TWO).with_constructor("K", 7, 0)
        self.inner = inner
        self.face = (Face().with_value("x", ONE).with_type("t", (1, list_of(A))).with_constructor("C", 9, 11)
                     .with_exception("E", ("tuple", (INT, INT))).with_structure("S", inner).with_value("a", TWO))

    def test_properties(self):
        face = self.face
        self.assertTrue(face.schemes == {"a": TWO, "x": ONE} and list(face.schemes) == ["a", "x"])
        self.assertEqual(face.types, {"t": (1, list_of(A))})
        self.assertEqual(face.tags, {"C": (9, 11)})
        self.assertEqual(face.exceptions, {"E": ("tuple", (INT, INT))})
        self.assertTrue(face.structures == {"S": self.inner})
        self.assertEqual((len(face), str(face), face.greatest), (8, "face of 8 items", 9))

    def test_an_empty_face(self):
        face = Face()
        told = (face.schemes, face.types, face.tags, face.exceptions, face.structures, face.greatest, len(face), str(face))
        self.assertEqual(told, ({}, {}, {}, {}, {}, 0, 0, "face of 0 items"))
        self.assertEqual(list(face), [])

    def test_the_greatest_stamp(self):
        face = Face()
        self.assertEqual(face.with_value("x", Scheme(BOOK, (), UNIT)).greatest, 0)
        self.assertEqual(face.with_value("x", TWO).greatest, 8)
        self.assertEqual(face.with_type("t", (0, ("made", 10 ** 59, ()))).greatest, 10 ** 59)
        self.assertEqual(face.with_exception("E", ("fn", INT, STRING)).greatest, 2)
        self.assertEqual(face.with_exception("E", None).greatest, 0)
        self.assertEqual(face.with_constructor("C", 77, 0).greatest, 77)
        self.assertEqual(face.with_structure("S", face.with_structure("T", self.face)).greatest, 9)
        self.assertEqual(face.with_value("x", TWO).with_value("x", ONE).greatest, 1)
        self.assertEqual(face.with_constructor("C", 77, 0).with_exception("C", None).greatest, 0)

    def test_a_face_never_changes(self):
        face = self.face
        before = (list(face), len(face), face.greatest)
        face.schemes["zz"] = ONE
        face.types.clear()
        face.tags.clear()
        face.exceptions["F"] = None
        face.structures.clear()
        face.with_value("y", ONE)
        face.opened(base_face())
        self.assertEqual((list(face), len(face), face.greatest), before)
        self.assertEqual(list(face.schemes), ["a", "x"])

    def test_iteration(self):
        self.assertEqual(list(self.face), [
            ("constructor", "C"), ("exception", "E"), ("structure", "S"), ("type", "t"), ("value", "a"), ("value", "x")])
        self.assertEqual(list(self.face), sorted(self.face))

    def test_look_ups(self):
        face = self.face
        self.assertTrue(face.value(("x",)) == ONE and face.value(("S", "v")) == TWO)
        self.assertEqual(face.maker(("t",)), (1, list_of(A)))
        self.assertTrue(face.structure(("S",)) == self.inner)
        self.assertEqual(face.tag(("C",)), ("con", 9, 11))
        self.assertEqual(face.tag(("S", "K")), ("con", 7, 0))
        self.assertEqual(face.tag(("E",)), ("exn", ("tuple", (INT, INT))))
        self.assertEqual(base_face().tag(("Div",)), ("exn", None))
        deep = Face().with_structure("A", Face().with_structure("B", face))
        self.assertTrue(deep.structure(("A", "B", "S")) == self.inner and deep.value(("A", "B", "S", "v")) == TWO)

    def test_unknown_names(self):
        face = self.face
        for call, paths in (
                (face.value, (("y",), ("t",), ("S", "x"), ("T", "v"), ("S", "S", "v"), ("C", "v"), ("E", "x"))),
                (face.maker, (("x",), ("u",), ("ref",), ("S", "t"), ("T", "t"))),
                (face.structure, (("T",), ("C",), ("E",), ("S", "S"), ("S", "K"))),
                (face.tag, (("S",), ("D",), ("S", "C"), ("T", "C")))):
            for path in paths:
                with self.assertRaises(UnknownName) as caught:
                    call(path)
                self.assertEqual(caught.exception.wanted, path)
                self.assertFalse(path in face and call == face.value and path != ("t",))

    def test_wrong_paths(self):
        face = self.face
        paths = (("x",), ("X",), ("int",), ("var",), ("tuple",), ("nothing",))
        odd = [value for value in ODD if value not in paths]
        for path in ((), ("x", "y"), ["x"], "x", ("X",), ("x", "X"), ("S", "val"), ("ref",), (1,), (("x",),), *odd):
            with self.assertRaises(InvalidOperation):
                face.value(path)
        for path in ((), ("T",), ("S", "ref"), ["t"], "t", ("unit",), *odd):
            with self.assertRaises(InvalidOperation):
                face.maker(path)
        for path in ((), ("s",), ("S", "x"), ["S"], "S", ("ref",), ("x", "S"), *odd):
            for call in (face.structure, face.tag):
                with self.assertRaises(InvalidOperation):
                    call(path)

    def test_in(self):
        for path in (("x",), ("t",), ("C",), ("E",), ("S",), ("S", "v"), ("S", "K")):
            self.assertTrue(path in self.face, path)
            self.assertFalse(path not in self.face, path)
        for path in (("y",), ("T",), ("S", "x"), ("S", "S"), ("T", "v"), (), ["x"], "x", ("ref",), ("unit",), *ODD):
            if path != ("x",):
                self.assertFalse(path in self.face, path)
        self.assertTrue(("ref",) in base_face() and ("int",) in base_face() and ("Match",) in base_face())

    def test_equality(self):
        again = (Face().with_value("a", TWO).with_structure("S", self.inner).with_exception("E", ("tuple", (INT, INT)))
                 .with_constructor("C", 9, 11).with_type("t", (1, list_of(A))).with_value("x", ONE))
        self.assertTrue(self.face == again)
        self.assertFalse(self.face != again)
        for other in (again.with_value("x", TWO), again.with_type("t", (0, INT)), again.with_constructor("C", 9, 10),
                      again.with_exception("E", None), again.with_structure("S", Face()), again.with_value("y", ONE),
                      again.with_exception("C", None), Face(), *ODD):
            self.assertFalse(self.face == other)
            self.assertTrue(self.face != other)
        self.assertTrue(Face() == Face())

    def test_later_items_hide_earlier_ones(self):
        face = self.face.with_value("x", TWO).with_type("t", (0, INT)).with_constructor("C", 3, 0).with_structure("S", Face())
        self.assertTrue(face.value(("x",)) == TWO and face.maker(("t",)) == (0, INT) and face.tag(("C",)) == ("con", 3, 0))
        self.assertEqual((len(face), ("S", "v") in face), (6, False))
        face = face.with_exception("C", INT)
        self.assertEqual((face.tag(("C",)), face.tags, len(face)), (("exn", INT), {}, 6))
        face = face.with_constructor("E", 9, 1)
        self.assertEqual((face.tag(("E",)), list(face.exceptions), len(face)), (("con", 9, 1), ["C"], 6))
        face = face.with_structure("C", Face()).with_value("t", ONE).with_type("x", (0, INT))
        self.assertEqual((face.tag(("C",)), len(face)), (("exn", INT), 9))

    def test_opened(self):
        other = Face().with_value("x", TWO).with_value("z", ONE).with_exception("C", None).with_structure("S", Face())
        face = self.face.opened(other)
        self.assertTrue(face.value(("x",)) == TWO and face.value(("z",)) == ONE and face.value(("a",)) == TWO)
        self.assertEqual((face.tag(("C",)), face.tags, ("S", "v") in face, len(face)), (("exn", None), {}, False, 7))
        self.assertTrue(Face().opened(self.face) == self.face and self.face.opened(Face()) == self.face)
        self.assertTrue(self.face.opened(self.face) == self.face)
        self.assertEqual(self.face.greatest, 9)
        self.assertEqual(face.greatest, 8)


class WrongItemsTest(unittest.TestCase):
    def test_names(self):
        face = Face()
        for name in LOW_WRONG:
            with self.assertRaises(InvalidOperation):
                face.with_value(name, None)
            with self.assertRaises(InvalidOperation):
                face.with_type(name, None)
        for name in HIGH_WRONG:
            for call in (face.with_exception, face.with_structure):
                with self.assertRaises(InvalidOperation):
                    call(name, 1)
            with self.assertRaises(InvalidOperation):
                face.with_constructor(name, None, None)

    def test_schemes_and_faces(self):
        for value in (*ODD, INT, (1, INT), Face()):
            with self.assertRaises(InvalidScheme):
                Face().with_value("x", value)
        for value in (*ODD, ONE, {}):
            with self.assertRaises(InvalidFace):
                Face().with_structure("S", value)
            with self.assertRaises(InvalidFace):
                Face().opened(value)

    def test_makers(self):
        for maker in ((0, INT), (4, ("fn", var(3), var(0))), (1, INT), (2, ("made", 99, (A, B))), (0, sized(300)),
                      (0, ("made", 99, (INT,) * 4)),
                      (0, ("made", 10 ** 59, ()))):
            self.assertEqual(Face().with_type("t", maker).maker(("t",)), maker)
        for maker in ((0, A), (1, B), (5, INT), (-1, INT), (True, INT), (None, INT), (0, None), (0,), (0, INT, INT), [0, INT],
                      INT, (0, ("made", 0, ())), (0, ("made", 1, (INT,))), (0, ("made", 99, (INT,) * 5)), (0, sized(301)),
                      (0, ("tuple", (("made", 99, ()), ("made", 99, (INT,))))), (0, ("made", True, ())), *ODD):
            with self.assertRaises(InvalidType):
                Face().with_type("t", maker)

    def test_carried_types(self):
        for carried in (None, INT, ("fn", INT, UNIT), ("made", 500, (INT,)), sized(300)):
            self.assertEqual(Face().with_exception("E", carried).exceptions["E"], carried)
        for carried in (A, list_of(A), sized(301), ("made", 5, ()), [INT], *ODD[1:]):
            if carried == ("made", 99, ()):
                continue
            with self.assertRaises(InvalidType):
                Face().with_exception("E", carried)

    def test_constructors(self):
        for stamp in (0, -1, True, None, "1", 10 ** 60, (1,), [1]):
            with self.assertRaises(InvalidNumber) as caught:
                Face().with_constructor("C", stamp, None)
            self.assertIs(caught.exception.given, stamp)
        for index in (-1, 12, True, None, "1", 10 ** 60, (1,), []):
            with self.assertRaises(InvalidNumber) as caught:
                Face().with_constructor("C", 1, index)
            self.assertIs(caught.exception.given, index)
        self.assertEqual(Face().with_constructor("C", 10 ** 59, 11).tags, {"C": (10 ** 59, 11)})

    def test_too_many(self):
        self.assertEqual(MAX_ITEMS, 2000)
        face = wide(1998)
        two = Face().with_value("x", ONE).with_value("y", ONE)
        self.assertEqual(len(face.with_structure("S", Face().with_value("x", ONE))), 2000)
        full = face.with_value("x", ONE).with_constructor("C", 1, 0)
        self.assertEqual((len(full), str(full)), (2000, "face of 2000 items"))
        self.assertEqual(len(full.with_exception("C", None).with_value("x", TWO)), 2000)
        for call in (lambda: full.with_value("y", ONE), lambda: full.with_type("x", (0, INT)),
                     lambda: full.with_constructor("D", 1, 0), lambda: full.with_exception("D", None),
                     lambda: full.with_structure("S", Face()), lambda: face.with_structure("S", two),
                     lambda: Face().with_structure("S", full), lambda: full.opened(Face().with_value("y", ONE)),
                     lambda: wide(1000).with_structure("S", wide(500)).with_structure("T", wide(499))):
            with self.assertRaises(TooMany) as caught:
                call()
            self.assertEqual(caught.exception.limit, 2000)
        self.assertTrue(full.opened(full) == full)
        hidden = Face().with_structure("S", wide(1999)).with_structure("S", Face().with_structure("T", wide(1998)))
        self.assertEqual(len(hidden), 2000)
        for call, error in ((lambda: full.with_value("Y", ONE), InvalidOperation), (lambda: full.with_value("y", 1),
                            InvalidScheme), (lambda: full.with_type("y", 1), InvalidType),
                            (lambda: full.with_structure("S", 1), InvalidFace), (lambda: full.opened(1), InvalidFace)):
            with self.assertRaises(error):
                call()


class BaseFaceTest(unittest.TestCase):
    def test_base_face(self):
        face = base_face()
        self.assertEqual(face.types, {
            "exn": (0, ("made", 4, ())), "int": (0, INT), "bool": (0, ("made", 3, ())), "string": (0, STRING),
            "list": (1, list_of(A)), "ref": (1, ("made", 6, (A,)))})
        self.assertEqual(list(face.types), ["bool", "exn", "int", "list", "ref", "string"])
        self.assertEqual(face.tags, {"Cons": (5, 1), "False": (3, 1), "Nil": (5, 0), "True": (3, 0)})
        self.assertEqual(face.exceptions, {"Div": None, "End": None, "Match": None, "Size": None})
        self.assertEqual((face.schemes, face.structures, len(face), face.greatest), ({}, {}, 14, 6))
        self.assertEqual(face.maker(("ref",)), (1, ("made", 6, (A,))))
        self.assertEqual(str(face), "face of 14 items")
        self.assertEqual(len(Book()), 6)

    def test_structures_in_structures(self):
        face = nested(50, lambda value: Face().with_structure("S", value if isinstance(value, Face) else Face()))
        again = nested(50, lambda value: Face().with_structure("S", value if isinstance(value, Face) else Face()))
        self.assertTrue(face == again)
        self.assertEqual(len(face), 50)
        self.assertTrue(("S",) * 50 in face and ("S",) * 51 not in face)
