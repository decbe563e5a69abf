import unittest

from letquay.data.faces import Face
from letquay.errors import InvalidBook, InvalidScope, InvalidTree, Refused, TooMany
from letquay.infer.declarations import is_derivation_of
from letquay.infer.expressions import Typing
from letquay.modules.functors import typed_functor
from letquay.modules.scopes import Scope
from letquay.modules.structures import typed_declarations, typed_structure
from letquay.text.reader import read_declaration, read_signature, read_structure, read_unit
from letquay.text.trees import is_structure, part_at
from letquay.types.books import Book
from letquay.types.schemes import Scheme
from tests.module_tools import BASE, INT, SCOPE, STRING, made, reason_of, signed, structure, types, values, var
from tests.odd import ODD


def wide():
    """A book and a scope with a signature N, and functors F and G."""
    book, one = signed("sig type t val x : t end")
    scope = SCOPE.with_signature("N", one)
    book, functor = typed_functor(book, scope, "X", read_signature("N"), read_structure(
        "struct datatype d = D of X.t val y = D X.x end"))
    book, other = typed_functor(book, scope, "X", read_signature("sig type 'a t end"), read_structure("struct datatype d = D of d X.t end"))
    return book, scope.with_functor("F", functor).with_functor("G", other)


BOOK, WIDE = wide()


def refusal(text):
    return reason_of(structure, text, BOOK, WIDE)


class StructureTest(unittest.TestCase):
    def test_declarations(self):
        found = structure("""struct
            val x = 1 val (y, z) = (x, "a") val rec f = fn a => g a end and g = fn b => f b end
            type 'a t = 'a * int datatype 'a d = D of 'a t | E and e = G of e d exception A exception B of e exception C = B exception M = Match
            structure S = struct val x = x + 1 type u = e end val w = S.x val v = C (G E) end""")
        book, face = found.book, found.face
        self.assertEqual(values(book, face), {"x": "int", "y": "int", "z": "string", "f": "'a -> 'b", "g": "'a -> 'b", "w": "int", "v": "exn"})
        self.assertEqual(face.types, {"t": (1, ("tuple", (var(0), INT))), "d": (1, made(7, var(0))), "e": (0, made(8))})
        self.assertEqual((face.tags, face.exceptions), (
            {"D": (7, 0), "E": (7, 1), "G": (8, 0)}, {"A": None, "B": made(8), "C": made(8), "M": None}))
        self.assertEqual((list(face.structures["S"]), len(book)), ([("type", "u"), ("value", "x")], 8))

    def test_values_that_are_declared_again(self):
        found = structure("struct val x = 1 val y = x val x = \"a\" val z = x val (x, w) = (x, x) end")
        self.assertEqual(values(found.book, found.face), {"w": "string", "x": "string", "y": "int", "z": "string"})

    def test_open(self):
        found = structure("""struct structure S = struct type t = int datatype d = D | E exception A val x = 1 structure T = struct val k = 2 end end
            open S val y = x + T.k val z = (D : d) type u = t exception B = A datatype c = D val w = D structure R = struct open S open T val l = k + x end end""")
        face = found.face
        self.assertEqual(sorted(values(found.book, face)), ["w", "y", "z"])
        self.assertEqual((sorted(face.types), face.tags, sorted(face.exceptions), sorted(face.structures)), (
            ["c", "u"], {"D": (8, 0)}, ["B"], ["R", "S"]))
        self.assertEqual((face.types["u"], face.schemes["z"].body, face.schemes["w"].body), ((0, INT), made(7), made(8)))
        self.assertEqual(list(face.structures["R"]), [("value", "l")])
        # What is opened hides what has been declared ahead, but the declared one counts for the face.
        found = structure("struct val x = \"a\" structure S = struct val x = 1 end open S val y = x end")
        self.assertEqual(values(found.book, found.face), {"x": "string", "y": "int"})
        # Names that were opened can be declared.
        self.assertIs(refusal("struct structure S = struct type t = int exception E end open S type t = int exception E end"), None)

    def test_paths_and_aliases(self):
        found = structure("struct structure A = struct structure B = struct val x = 1 end end structure C = A structure D = A.B structure E = C.B val y = E.x end")
        self.assertEqual(found.face.structures["C"], found.face.structures["A"])
        self.assertEqual(found.face.structures["D"], found.face.structures["E"])
        scope = SCOPE.opened(Face().with_structure("S", found.face))
        again = structure("S.A.B", found.book, scope)
        self.assertEqual((again.face, again.faces, again.notes), (found.face.structures["D"], (((), again.face),), ()))

    def test_seals_and_fits(self):
        found = structure("""struct structure A = struct type t = int val x = 1 end :> sig type t val x : t end
            structure B = struct type t = int val x = 1 end : sig type t val x : t end structure C = A :> sig type t end :> sig type t end val y = B.x + 1 end""")
        face = found.face
        self.assertEqual(values(found.book, face), {"y": "int"})
        self.assertEqual(face.structures["B"].types, {"t": (0, INT)})
        stamps = {name: face.structures[name].types["t"][1] for name in "AC"}
        self.assertNotEqual(stamps["A"], stamps["C"])
        self.assertEqual(found.book.asks(stamps["A"][1]), None)
        self.assertEqual(refusal("struct structure A = struct type t = int val x = 1 end :> sig type t val x : t end val y = A.x + 1 end")[:2],
                         ("clash", (1, 1, 2, 2, 0)))
        # A client is typed by the signature alone.
        for inside in ("type t = int val x = 1", "type t = string val x = \"a\"", "datatype t = A | B val x = A"):
            found = structure("struct structure A = struct " + inside + " end :> sig type t val x : t end val y = (A.x, A.x) end")
            self.assertEqual(values(found.book, found.face), {"y": "t * t"})
            self.assertEqual(refusal("struct structure A = struct " + inside + " end :> sig type t val x : t end val y = A.x = A.x end")[0], "unequal")

    def test_applications(self):
        found = structure("struct structure A = F(struct type t = int val x = 1 end) structure B = F(struct type t = string val x = \"a\" end) "
                          "val eq = (A.y = A.y, B.y = B.y) end", BOOK, WIDE)
        a, b = [found.face.structures[name].types["d"][1][1] for name in "AB"]
        self.assertNotEqual(a, b)
        self.assertEqual((found.book.constructors(a), found.book.constructors(b)), ((("D", INT),), (("D", STRING),)))

    def test_notes_and_faces(self):
        text = "struct val x = 1 structure A = struct val y = 2 structure B = struct end end :> sig val y : int end val z = A.y end"
        found = structure(text)
        tree = read_structure(text)
        self.assertEqual([place for place, _ in found.notes], [(1, 0), (1, 1, 2, 1, 1, 0), (1, 2)])
        self.assertEqual([place for place, _ in found.faces], [(1, 1, 2, 1, 1, 1, 2), (1, 1, 2, 1), (1, 1, 2), ()])
        self.assertEqual([len(face) for _, face in found.faces], [0, 2, 1, 4])
        self.assertEqual(found.faces[-1], ((), found.face))
        for place, typing in found.notes:
            self.assertIsInstance(typing, Typing)
            self.assertEqual(part_at(tree, place)[0], "val")
        self.assertTrue(is_derivation_of(found.book, BASE, part_at(tree, (1, 0)), found.notes[0][1].derivation))
        self.assertEqual(list(found.notes[2][1].names), ["z"])

    def test_names_declared_twice(self):
        for text, place, name in (
                ("type t = int type t = int", (1, 1), "t"), ("type t = int datatype t = A", (1, 1), "t"), ("datatype t = A datatype u = B | A", (1, 1), "A"),
                ("datatype t = A exception A", (1, 1), "A"), ("exception A exception A = Match", (1, 1), "A"), ("exception A datatype t = B | A", (1, 1), "A"),
                ("structure S = struct end structure S = struct end", (1, 1), "S"), ("type int = int", (1, 0), "int"), ("exception Div", (1, 0), "Div"),
                ("exception Nil = Match", (1, 0), "Nil"), ("datatype list = A", (1, 0, 1, 0), "list"), ("datatype t = A | True", (1, 0, 1, 0, 2, 1), "True"),
                ("datatype t = A and u = A", (1, 0, 1, 1, 2, 0), "A"), ("datatype t = A and t = B", (1, 0, 1, 1), "t"),
                ("structure S = struct exception E exception E end", (1, 0, 2, 1, 1), "E"),
                # It is told ahead of all else of the declaration.
                ("type t = int type t = no", (1, 1), "t"), ("exception A exception A of no", (1, 1), "A"), ("exception A exception A = No", (1, 1), "A"),
                ("structure S = struct end structure S = No", (1, 1), "S"), ("type u = int datatype t = A of no and u = A | A", (1, 1), "u"),
                ("exception Match of no", (1, 0), "Match"), ("type bool = no", (1, 0), "bool"), ("exception End = No", (1, 0), "End")):
            self.assertEqual(refusal(f"struct {text} end"), ("twice", place, name), text)
        for text in ("val x = 1 val x = 2", "type x = int val x = 1 exception X structure X = struct end",
                     "structure S = struct type t = int end type t = int", "exception A structure S = struct exception A end"):
            self.assertIs(refusal(f"struct {text} end"), None, text)

    def test_places_of_refusals(self):
        for text, reason in (
                ("struct val x = no end", ("unbound", (1, 0, 2), ("no",))), ("struct val No = 1 end", ("unbound", (1, 0, 1), ("No",))),
                ("struct val x = ref [] end", ("open", (1, 0, 1), "x")), ("struct val x = 1 2 end", ("clash", (1, 0, 2), INT, ("fn", INT, var(0)))),
                ("struct val x = fn y => y y end end", ("endless", (1, 0, 2, 1, 0, 2), var(0), ("fn", var(0), var(1)))),
                ("struct val x = Div = Div end", ("unequal", (1, 0, 2, 2, 0), made(4))), ("struct val Fail x = 1 end", ("unbound", (1, 0, 1), ("Fail",))),
                ("struct val Div x = 1 end", ("arity", (1, 0, 1), ("Div",))), ("struct val rec f = fn x => no end end", ("unbound", (1, 0, 1, 0, 1, 0, 2), ("no",))),
                ("struct type t = no end", ("unbound", (1, 0, 3), ("no",))), ("struct type t = int * list end", ("arity", (1, 0, 3, 1, 1), ("list",))),
                ("struct type 'a t = 'b end", ("unbound", (1, 0, 3), ("b",))), ("struct datatype t = A of int * no end", ("unbound", (1, 0, 1, 0, 2, 0, 1, 1, 1), ("no",))),
                ("struct datatype t = A of t end", ("empty", (1, 0, 1, 0), "t")), ("struct exception E of no end", ("unbound", (1, 0, 2), ("no",))),
                ("struct exception E = No end", ("unbound", (1, 0), ("No",))), ("struct exception E = True end", ("unbound", (1, 0), ("True",))),
                ("struct open No end", ("unbound", (1, 0), ("No",))), ("struct open A.No end", ("unbound", (1, 0), ("A", "No"))),
                ("No", ("unbound", (), ("No",))), ("struct structure S = No.No end", ("unbound", (1, 0, 2), ("No", "No"))),
                ("No(struct end)", ("unbound", (), ("No",))), ("No(Nope)", ("unbound", (), ("No",))), ("F(No)", ("unbound", (2,), ("No",))),
                ("struct end : No", ("unbound", (2,), ("No",))), ("No :> Nope", ("unbound", (1,), ("No",))), ("struct end :> sig val x : no end", ("unbound", (2, 1, 0, 2), ("no",))),
                ("struct end :> sig val x : int end", ("lacks", (), "value", ("x",))), ("struct val x = 1 end : sig val x : string end", ("unlike", (), "value", ("x",))),
                ("struct structure S = struct end :> sig type t end end", ("lacks", (1, 0, 2), "type", ("t",))),
                ("F(struct type t = int end)", ("lacks", (), "value", ("x",))),
                ("F(struct type t = int val x = \"a\" end)", ("unlike", (), "value", ("x",))), ("G(struct type 'a t = 'a end)", ("empty", (), "d")),
                ("struct structure S = G(struct type 'a t = 'a end) end", ("empty", (1, 0, 2), "d")), ("struct end :> sig type t end where type t = no", ("unbound", (2, 4), ("no",))),
                ("struct end :> sig type t end where type u = int", ("where", (2,), ("u",))), ("struct end :> sig type t type t end", ("twice", (2, 1, 1), "t"))):
            self.assertEqual(refusal(text), reason, text)

    def test_the_first_refused_declaration(self):
        for text, place in (("val x = no val y = 1 2", (1, 0, 2)), ("val y = 1 2 val x = no", (1, 0, 2)), ("type t = int type t = int val x = no", (1, 1)),
                            ("structure S = struct val y = no end val x = no", (1, 0, 2, 1, 0, 2)), ("val x = x", (1, 0, 2)), ("val x = y val y = 1", (1, 0, 2)),
                            ("structure S = S", (1, 0, 2)), ("structure S = struct val x = S.y end", (1, 0, 2, 1, 0, 2))):
            self.assertEqual(refusal(f"struct {text} end")[1], place, text)
        # The structure of a seal comes ahead of its signature, and both ahead of the matching.
        self.assertEqual(refusal("struct val x = no end :> sig val y : nope end"), ("unbound", (1, 1, 0, 2), ("no",)))
        self.assertEqual(refusal("struct val x = 1 end :> sig val y : int val z : nope end"), ("unbound", (2, 1, 1, 2), ("nope",)))

    def test_sizes(self):
        big = Scope(BASE.with_value("big", Scheme(Book(), (), ("tuple", (INT,) * 299))))
        self.assertEqual(len(structure("struct val x = big end", scope=big).face), 1)
        with self.assertRaises(TooMany) as caught:
            structure("struct val x = (big, 1) val y = no end", scope=big)
        self.assertEqual(caught.exception.limit, 300)

    def test_too_many_items(self):
        face = Face()
        for a in "abcdefghijklm":
            for b in "abcdefghijklmnopqrstuvwxyz":
                face = face.with_value("w" + a + b, Scheme(Book(), (), INT))
        scope = SCOPE.opened(Face().with_structure("S", face))
        text = "struct " + " ".join(f"structure S{c} = S" for c in "abcd") + " end"
        self.assertEqual(len(structure(text, scope=scope).face), 4 * 339)
        with self.assertRaises(TooMany) as caught:
            structure(text.replace("end", "structure Se = S val x = no end"), scope=scope)
        self.assertEqual(caught.exception.limit, 2000)

    def test_typed_declarations(self):
        trees = read_unit("val x = 1 structure S = struct val y = x end")
        found = typed_declarations(Book(), SCOPE, trees)
        whole = structure("struct val x = 1 structure S = struct val y = x end end")
        self.assertEqual((found.face, found.book), (whole.face, whole.book))
        self.assertEqual([place for place, _ in found.notes], [(0,), (1, 2, 1, 0)])
        self.assertEqual([place for place, _ in found.faces], [(1, 2)])
        self.assertEqual(reason_of(typed_declarations, Book(), SCOPE, read_unit("val x = 1 val y = no")), ("unbound", (1, 2), ("no",)))
        self.assertEqual(reason_of(typed_declarations, Book(), SCOPE, read_unit("exception E exception E")), ("twice", (1,), "E"))
        empty = typed_declarations(Book(), SCOPE, ())
        self.assertEqual((empty.face, empty.notes, empty.faces, empty.book), (Face(), (), (), Book()))
        for value in (*ODD, read_unit("signature N = sig end"), read_unit("functor F(X : sig end) = X"), [read_declaration("val x = 1")],
                      read_declaration("val x = 1")):
            if value != ():
                self.assertRaises(InvalidTree, typed_declarations, Book(), SCOPE, value)

    def test_arguments(self):
        for call in (typed_structure, typed_declarations):
            self.assertRaises(InvalidBook, call, None, None, None)
            for scope in (None, 1, BASE, WIDE, Scope(BASE.with_type("t", (0, made(7))))):
                self.assertRaises(InvalidScope, call, Book(), scope, None)
        for value in ODD:
            if not is_structure(value):
                self.assertRaises(InvalidTree, typed_structure, Book(), SCOPE, value)

    def test_nothing_changes(self):
        before = (len(BOOK), list(WIDE.face), list(WIDE.functors))
        self.assertIsNotNone(refusal("struct datatype t = A val x = no end"))
        structure("struct datatype t = A end", BOOK, WIDE)
        self.assertEqual((len(BOOK), list(WIDE.face), list(WIDE.functors)), before)
        self.assertEqual(types(Book(), Face()), {})
        self.assertRaises(Refused, structure, "No")


if __name__ == "__main__":
    unittest.main()
