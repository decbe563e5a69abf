"""[0.4]: errors behind a "then" in parts 11 and 12: behind all others, in the order in which they stand."""

import unittest

from letquay.desk.desk import Desk
from letquay.desk.sessions import Session
from letquay.desk.judging import TYPED
from letquay.errors import (
    InvalidFace, InvalidNumber, InvalidOperation, InvalidUnit, NothingToUndo, ParseError, Refused, TooMany, UnknownName,
)
from letquay.text.reader import read_signature, read_unit
from letquay.text.shell import Shell
from letquay.units.links import anew, compiled_all, linked, order_of, updated, whole
from letquay.units.units import Unit, compiled_unit, face_of_unit

GREAT = "fn " + " | ".join(["1 => 1"] * 1480) + " end"
MANY = ", ".join([str(k) for k in range(1, 40)])
LOOP = "let rec f = fn n => f (n + 1) end in (f 0 : int) end"
# A value whose type has a greater size than 300.
WIDE = "let a = fn x => (x, x, x, x, x, x, x) end in a (a (a 1)) end"
# A structure that is cut to a signature of 2^11 items in all.
BIG = "signature A = sig val x : int end " + " ".join(
    f"signature {new} = sig structure P : {old} structure Q : {old} end" for old, new in zip("ABCDEFGHI", "BCDEFGHIJ"))


def unit(name, uses, text, signature=None):
    return Unit(name, uses, read_unit(text), signature=None if signature is None else read_signature(signature))


def error_of(call, *args, **more):
    """What a call raises: the class, and what tells the error."""
    try:
        call(*args, **more)
    except (Refused, TooMany, ParseError, UnknownName, NothingToUndo, InvalidNumber) as error:
        told = [getattr(error, name) for name in ("reason", "limit", "spot", "wanted", "many", "given") if hasattr(error, name)]
        return error.__class__, told[0]
    except ValueError as error:
        return error.__class__, None
    return None, None


class SessionTest(unittest.TestCase):
    def setUp(self):
        self.session = Session((3,))
        self.session.phrase(GREAT)
        self.session.phrase("val r = ref 0")

    def check(self, text, wanted, asked=True):
        for call in (self.session.phrase, self.session.asked) if asked else (self.session.phrase,):
            kind, told = error_of(call, text)
            self.assertEqual((kind, told[0] if kind is Refused else told), wanted, text)
        self.assertEqual((len(self.session), self.session.text("r"), self.session.output, self.session.reads), (2, "ref 0", (), 0))

    def test_texts_come_first(self):
        """A text that is wrong is told ahead of names that are not there and of too many nodes."""
        self.check(f"(nope, {MANY}", (ParseError, len(f"(nope, {MANY}")))
        deep = "(" * 59 + "nope" + ", 1)" * 59
        self.check(deep, (ParseError, len(deep)))
        great = "fn " + " | ".join(["1 => nope"] * 1500) + " end"
        self.check(great, (ParseError, len(great)))
        self.check(None, (ParseError, None))

    def test_refusals_come_ahead_of_too_many_nodes(self):
        for text, word in ((f"(nope, {MANY})", "unbound"), (f"(1 + True, {MANY})", "clash"), (f"(fn x => x x end, {MANY})", "endless"),
                           (f"(ref [], {MANY})", "open"), (f"(r = (fn x => x end), {MANY})", "clash"), (f"((1 : nope), {MANY})", "unbound")):
            self.check(text, (Refused, word))
        for text, word in (("datatype t = " + " | ".join(f"K{k}" for k in "ABCDEFGHI") + " of nope * int * int * int * int * int * int * int * int * int", "unbound"),
                           (f"structure S = struct val a = ({MANY}) val b = nope end", "unbound"), (f"structure S = struct val a = ({MANY}) end :> sig val a : int end", "unlike"),
                           (f"functor F(X : sig end) = struct val a = ({MANY}) exception E of t end", "unbound"), (f"val rec f = fn n => ({MANY}, g) end", "unbound"),
                           (f"val (a, b) = ({MANY})", "clash")):
            self.check(text, (Refused, word), asked=False)

    def test_too_great_types_come_ahead_of_too_many_nodes(self):
        self.check(f"({WIDE}, {MANY})", (TooMany, 300))

    def test_too_many_nodes_come_ahead_of_runs(self):
        for text in (f"(1 div 0, {MANY})", f"({LOOP}, {MANY})", f"(print \"a\"; r := read (); 1 div 0; ({MANY}))", f"({MANY})"):
            self.check(text, (TooMany, 3000))
        self.check(f"val 1 = 2 + let x = ({MANY}) in 1 end", (TooMany, 3000), asked=False)

    def test_runs_come_last(self):
        for text, word in (("1 div 0", "raised"), (LOOP, "long"), (f"(1 div 0; {LOOP})", "raised"), (f"({LOOP}; 1 div 0)", "long")):
            self.check(text, (Refused, word), asked=False)
            self.assertEqual(self.session.asked(text), "int")

    def test_the_first_phrase(self):
        """An expression of 2999 nodes is a declaration of 3001."""
        rows = "fn " + " | ".join(["1 => 1"] * 1498) + " | {} end"
        for text, wanted in (("1 => nope", (Refused, "unbound")), ("1 => True", (Refused, "clash")), ("1 => 1", (TooMany, 3000))):
            for call in (Session().phrase, Session().asked):
                kind, told = error_of(call, rows.format(text))
                self.assertEqual((kind, told[0] if kind is Refused else told), wanted)

    def test_undo_and_redo(self):
        for call in (self.session.undo, self.session.redo):
            self.assertEqual(error_of(call, many=-1), (InvalidNumber, -1))
            self.assertEqual(error_of(call, many=9), (NothingToUndo, 9))


class UnitsTest(unittest.TestCase):
    """Part 11: each case has all errors from one on; the first of them is told."""

    def setUp(self):
        self.parts = compiled_all((unit("A", (), "datatype t = K"), unit("B", ("A",), "val x = A.K")))
        self.faces = {part.unit.name: part.face for part in self.parts}
        # B, compiled for another A: its face tells an origin of A unlike.
        self.other = compiled_all((unit("A", (), "datatype t = K of int"), unit("B", ("A",), "val x = A.K")))[1].face

    def test_units(self):
        bad = unit("C", ("A", "B"), "val x = nope")
        for call in (face_of_unit, compiled_unit):
            for given, wanted in (
                    ((None, None), InvalidUnit), ((bad, None), InvalidFace), ((bad, {"A": self.faces["A"]}), InvalidFace), ((bad, {**self.faces, "B": self.other}), InvalidFace),
                    ((Unit("B", ("A",), bad.declarations), {"A": self.faces["B"]}), Refused), ((bad, self.faces), Refused), ((unit("C", (), f"val x = {WIDE}"), {}), TooMany)):
                self.assertEqual(error_of(call, *given)[0], wanted)
        own = Unit("A", ("B",), bad.declarations)
        self.assertEqual(error_of(face_of_unit, own, {"B": self.faces["B"]})[0], InvalidFace)

    def test_too_much_to_flatten_comes_last(self):
        cut = "structure T = X :> J :> J :> J :> J :> sig end"
        text = BIG + f" functor F(X : J) = struct {cut} "
        kinds = [error_of(call, unit("U", (), text + rest), {}) for call in (face_of_unit, compiled_unit) for rest in ("end", "val y = nope end")]
        self.assertEqual([kind for kind, _ in kinds], [None, Refused, TooMany, Refused])
        self.assertEqual(kinds[2], (TooMany, 20000))

    def test_links(self):
        declaring = unit("S", (), "signature N = sig end")
        twice = unit("S", (), "val x = nope")
        for call in (order_of, whole, compiled_all, lambda units: anew((), units), lambda units: updated((), units)):
            self.assertEqual(error_of(call, (declaring, twice, None))[0], InvalidOperation)
            self.assertEqual(error_of(call, (declaring, twice)), (Refused, ("twice", "S")))
            self.assertEqual(error_of(call, (declaring, unit("T", ("V", "W"), "val x = nope"))), (Refused, ("lacks", "T", "V")))
            self.assertEqual(error_of(call, (declaring, unit("T", ("V",), ""), unit("V", ("T",), ""))), (Refused, ("ring", "T")))
        self.assertEqual(error_of(whole, (declaring, twice.with_declarations(()), unit("T", (), "")))[0], Refused)
        great = tuple(unit(name, (), f"val x = {GREAT}") for name in "AB")
        self.assertEqual(error_of(whole, (*great, declaring))[0], InvalidOperation)
        self.assertEqual(error_of(whole, great)[0], InvalidUnit)

    def test_what_is_refused_when_it_is_compiled(self):
        units = (unit("B", (), "val x = nope"), unit("A", (), f"val x = {WIDE}"), unit("C", (), "val x = 1 1"))
        for call in (compiled_all, lambda given: anew((), given), lambda given: updated((), given)):
            self.assertEqual(error_of(call, units), (TooMany, 300))
            self.assertEqual(error_of(call, units[::2]), (Refused, ("B", ("unbound", (0, 2), ("nope",)))))
            self.assertEqual(error_of(call, units[2:])[1][0], "C")

    def test_parts(self):
        ring = (unit("T", ("V",), ""), unit("V", ("T",), ""))
        for call in (anew, updated):
            for parts, units, wanted in (
                    (None, None, InvalidOperation), ((None,), ring, InvalidOperation), ((*self.parts, self.parts[0]), ring, InvalidOperation), (self.parts, (), InvalidOperation),
                    (self.parts, ring, Refused), ((), ring, Refused)):
                self.assertEqual(error_of(call, parts, units)[0], wanted)
        new = compiled_all((unit("A", (), "datatype t = L"),))
        self.assertEqual(error_of(linked, (self.parts[1], new[0], None))[0], InvalidOperation)
        self.assertEqual(error_of(linked, (self.parts[1], self.parts[1], new[0])), (Refused, ("stale", "B", "A")))
        self.assertEqual(error_of(linked, (self.parts[1],)), (Refused, ("lacks", "B", "A")))
        self.assertEqual(error_of(linked, (new[0], self.parts[0], self.parts[1])), (Refused, ("twice", "A")))


class DeskTest(unittest.TestCase):
    def setUp(self):
        self.desk = Desk()
        for name in "ABCDEFGH":
            self.desk.put(unit(name, (), "val x = 1"))
        for claim in (*[("typed", name) for name in "ABCDEF"], ("has", "A", "x"), ("keeps", "B")):
            self.desk.demand(claim)

    def test_put_take_and_revise(self):
        desk = self.desk
        before = desk.twin()
        self.assertEqual(error_of(desk.put, None)[0], InvalidUnit)
        self.assertEqual(error_of(desk.put, unit("I", (), "val x = nope")), (TooMany, 8))
        self.assertEqual(error_of(desk.put, unit("A", (), "val y = nope")), (Refused, ("typed", "A")))
        self.assertEqual(error_of(desk.put, unit("A", (), "val y = 1")), (Refused, ("has", "A", "x")))
        self.assertEqual(error_of(desk.take, "I"), (UnknownName, "I"))
        self.assertEqual(error_of(desk.take, "B"), (Refused, ("typed", "B")))
        self.assertEqual(error_of(desk.revise, "I", lambda old: None), (UnknownName, "I"))
        self.assertEqual(error_of(desk.revise, "A", lambda old: None)[0], InvalidUnit)
        self.assertEqual(error_of(desk.revise, "A", lambda old: unit("I", (), ""))[0], InvalidOperation)
        self.assertEqual(error_of(desk.revise, "A", lambda old: unit("A", (), "")), (Refused, ("has", "A", "x")))
        self.assertTrue(desk == before)

    def test_claims(self):
        desk = self.desk
        for claim in (("typed",), ("typed", "a"), None, ("typed", "A"), ("uses", "I", 1)):
            self.assertEqual(error_of(desk.demand, claim)[0], InvalidOperation)
        self.assertEqual(error_of(desk.demand, ("uses", "J", "I")), (UnknownName, "J"))
        self.assertEqual(error_of(desk.demand, ("uses", "A", "I")), (UnknownName, "I"))
        self.assertEqual(error_of(desk.demand, ("uses", "A", "B")), (TooMany, 8))
        self.assertEqual(error_of(desk.waive, ("typed", "I"))[0], InvalidOperation)
        desk.waive(("typed", "F"))
        self.assertEqual(error_of(desk.demand, ("uses", "A", "B")), (Refused, ("uses", "A", "B")))
        self.assertEqual(error_of(desk.demand, ("uses", "A", "I")), (UnknownName, "I"))

    def test_outcome_and_parts(self):
        desk = Desk()
        self.assertEqual(error_of(desk.outcome, (True,), most=-1)[0], InvalidOperation)
        self.assertEqual(error_of(desk.outcome, (1,), most=-1), (InvalidNumber, -1))
        self.assertEqual(error_of(desk.outcome, (1,), most=1)[0], InvalidOperation)
        desk.put(unit("A", ("B",), ""))
        self.assertEqual(error_of(desk.outcome, most=True)[0], InvalidNumber)
        self.assertEqual(error_of(desk.outcome)[0], InvalidOperation)
        self.assertEqual(error_of(desk.part, "B"), (UnknownName, "B"))
        self.assertEqual(error_of(desk.part, "A")[0], InvalidOperation)
        desk.put(unit("B", (), ""))
        self.assertEqual((desk.verdicts["A"], desk.outcome()), (TYPED, ("done",)))


class ShellTest(unittest.TestCase):
    def test_orders(self):
        shell = Shell()
        shell(f"do {GREAT}")
        for line, wanted in ((f"do (nope, {MANY})", "refused unbound"), (f"ask (nope, {MANY})", "refused unbound"), (f"do ({WIDE}, {MANY})", "many 300"),
                             (f"do ({MANY})", "many 3000"), (f"ask ({MANY})", "many 3000"), (f"do (1 div 0, {MANY})", "many 3000"), (f"do (1 +, {MANY})", "text 4"),
                             ("put U U = struct val", "what"), ("put U = F(struct end", "text 12"), ("put U = F(struct end)", "text"), ("demand uses A b", "what"),
                             ("demand uses A B", "unknown A"), ("waive typed A", "cannot"), ("run 1 x", "what"), ("run 1", "cannot")):
            self.assertEqual(shell(line), wanted, line)
        self.assertEqual(len(shell), 1)


if __name__ == "__main__":
    unittest.main()
