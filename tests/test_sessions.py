"""Sessions: promises [12.1] to [12.3], part 12a."""

import random
import unittest

from letquay.desk.sessions import Session
from letquay.errors import InvalidNumber, InvalidOperation, NothingToUndo, ParseError, Refused, TooMany, UnknownName
from letquay.modules.programs import typed_unit
from letquay.rules.runs import Run
from letquay.text.printer import write_declaration
from letquay.text.reader import read_declaration, read_unit
from letquay.text.trees import part_at
from tests.odd import ODD
from tests.program_tools import random_text


def state(session):
    return (session.phrases, session.output, session.reads, session.names, len(session), str(session), session.inputs,
            [(name, session.scheme_of(name), session.text(name)) for name in session.names], session.program)


def given(*texts, inputs=()):
    session = Session(inputs)
    for text in texts:
        session.phrase(text)
    return session


def reason_of(call, *args):
    try:
        call(*args)
    except Refused as refused:
        return refused.reason
    return None


class PhraseTest(unittest.TestCase):
    def test_answers(self):
        session = Session((7, 8))
        for text, wanted in (
                ("1 + 2", ("val it : int = 3",)), ("it * 2", ("val it : int = 6",)), ("val x = it", ("val x : int = 6",)),
                ("val rec len = fn [] => 0 | _ :: l => 1 + len l end", ("val len : 'a list -> int = fn",)),
                ("val (b, a) = (1, \"s\")", ('val a : string = "s"', "val b : int = 1")), ("val _ = 1", ()),
                ("val rec odd = fn 0 => False | n => even (n - 1) end and even = fn 0 => True | n => odd (n - 1) end", (
                    "val even : int -> bool = fn", "val odd : int -> bool = fn")),
                ("type 'a p = 'a * 'a", ("type p",)), ("datatype 'a t = A | B of 'a and u = C", ("datatype t, u",)), ("exception E of int", ("exception E",)),
                ("exception F = E", ("exception F",)), ("structure S = struct val q = 1 val _ = print \"in\" end", ("in", "structure S")),
                ("signature N = sig end", ("signature N",)), ("functor G(X : N) = struct val r = ref 0 end", ("functor G",)), ("open S", ()),
                ("q", ("val it : int = 1",)), ("(print \"a\"; print \"b\"; B 1)", ("a", "b", "val it : int t = B 1")), ("read ()", ("val it : int = 7",)),
                ("fn x => x = x end", ("val it : ''a -> bool = fn",)), ("[]", ("val it : 'a list = []",)), ("print (text (read ()))", ("8", "val it : unit = ()")),
                ("val\nx\n=\n\"new\"", ('val x : string = "new"',))):
            self.assertEqual(session.phrase(text), wanted, text)
        self.assertEqual((session.output, session.reads, len(session), str(session)), (("in", "a", "b", "8"), 2, 22, "session of 22 phrases"))
        self.assertEqual(session.names, ("a", "b", "even", "it", "len", "odd", "x"))
        self.assertEqual((session.text("x"), session.scheme_of("len"), session.text("it")), ('"new"', "'a list -> int", "()"))
        self.assertEqual(session.program, typed_unit(session.phrases))

    def test_a_session_is_its_program(self):
        texts = ("val r = ref 0", "val f = fn n => (r := !r + n; print (text (!r)); !r) end", "f 5", "f (read ())", "val s = (r, it)")
        session = given(*texts, inputs=(3, 4))
        whole = read_unit("val r = ref 0 val f = fn n => (r := !r + n; print (text (!r)); !r) end val it = f 5 val it = f (read ()) val s = (r, it)")
        self.assertEqual(session.phrases, whole)
        run = Run(typed_unit(whole), (3, 4))
        run.go_on(most=20000)
        self.assertEqual((session.output, session.reads), (run.output, run.reads))
        self.assertEqual(tuple((name, session.text(name)) for name in session.names), run.ends[1])
        self.assertEqual(session.text("r"), "ref 8")

    def test_refused_phrases_leave_nothing(self):
        session = given("val r = ref 1", "exception E of int", "val x = read ()", inputs=(5, 6))
        before = state(session)
        for text, wanted in (
                ("(print \"a\"; r := 5; read (); 1 div 0)", ("raised", "Div")), ("(raise E 3 : int)", ("raised", "E")), ("val 1 = 2", ("raised", "Match")),
                ("let rec f = fn n => f (n + 1) end in (print \"a\"; (f 0 : int)) end", ("long",)), ("nothing", ("unbound", (2,), ("nothing",))),
                ("val y = 1 + True", ("clash", (2, 2, 1), ("made", 1, ()), ("made", 3, ()))), ("exception E", ("twice", (), "E")),
                ("val y = ref []", ("open", (1,), "y")), ("open S", ("unbound", (), ("S",))), ("(read (); read ())", ("raised", "End")),
                ("structure S = struct val a = 1 val b = c end", ("unbound", (2, 1, 1, 2), ("c",)))):
            self.assertEqual(reason_of(session.phrase, text), wanted, text)
            self.assertEqual(state(session), before, text)
        self.assertEqual(session.phrase("read ()"), ("val it : int = 6",))

    def test_texts_that_are_none(self):
        session = Session()
        for text, spot in (("val x =", 7), ("", 0), ("1 +", 3), ("val", 3), ("?", 0), ("val x = 1 val y = 2", 10), ("1 2 )", 4), ("sig end", 0), ("~0", 0), ("end", 0)):
            with self.assertRaises(ParseError) as caught:
                session.phrase(text)
            self.assertEqual(caught.exception.spot, spot, text)
        for odd in ODD:
            if not isinstance(odd, str):
                with self.assertRaises(ParseError) as caught:
                    session.phrase(odd)
                self.assertIsNone(caught.exception.spot)
                self.assertRaises(ParseError, session.asked, odd)
        self.assertEqual(len(session), 0)

    def test_how_deep(self):
        session = Session()
        deep = "(" * 58 + "1" + ", 1)" * 58
        session.phrase(deep)
        for call in (session.phrase, session.asked):
            text = f"({deep}, 1)"
            with self.assertRaises(ParseError) as caught:
                call(text)
            self.assertEqual(caught.exception.spot, len(text))
        self.assertRaises(ParseError, session.phrase, f"val x = ({deep}, 1)")

    def test_how_many_nodes(self):
        def rows(n):
            return "fn " + " | ".join(["1 => 1"] * n) + " end"
        session = given(f"val x = {rows(745)}", f"val x = {rows(745)}")
        session.phrase("(1, 2, 3, 4, 5, 6, 7, 8, 9, 10)")
        for text in ("1", "val y = 1", "exception E", "type t = int * int"):
            if text != "exception E":
                with self.assertRaises(TooMany) as caught:
                    session.phrase(text)
                self.assertEqual(caught.exception.limit, 3000)
        self.assertRaises(TooMany, session.asked, "x")
        self.assertEqual(len(session), 3)
        session.phrase("exception E")
        self.assertRaises(TooMany, session.phrase, "exception F")
        for call in (Session().phrase, Session().asked):
            with self.assertRaises(TooMany) as caught:
                call(rows(1499))
            self.assertEqual(caught.exception.limit, 3000)
        Session().phrase(rows(1498))
        self.assertRaises(ParseError, Session().phrase, rows(1500))
        great = given(*[f"val {x} = ({y}, {y}, {y})" for x, y in zip("abcd", ("1", *"abc"))])
        with self.assertRaises(TooMany) as caught:
            great.phrase("(d, d, d)")
        self.assertEqual(caught.exception.limit, 300)

    def test_asked(self):
        session = given("val rec map = fn (f, []) => [] | (f, x :: l) => f x :: map (f, l) end", "val r = ref 1")
        before = state(session)
        for text, wanted in (("map", "('a -> 'b) * 'a list -> 'b list"), ("1 div 0", "int"), ("(print \"a\"; r := 7)", "unit"), ("fn x => x = x end", "''a -> bool"),
                             ("read ()", "int")):
            self.assertEqual(session.asked(text), wanted)
        self.assertEqual(reason_of(session.asked, "map 1")[0], "clash")
        self.assertEqual(reason_of(session.asked, "ref []"), ("open", (1,), "it"))
        for text in ("val x = 1", "open S", "1 1 +"):
            self.assertRaises(ParseError, session.asked, text)
        self.assertEqual(state(session), before)


class PlacesTest(unittest.TestCase):
    """Part 12a: the place of a refusal of the typing begins in the declaration of the phrase."""

    AHEAD = (
        "datatype t = A | B of int", "structure S = struct val k = 4 exception E end", "signature N = sig type t val k : t end",
        "functor F(X : sig type 'a t end) = struct datatype d = D of d X.t end")
    REFUSED = (
        ("a + 1", ("unbound", (2, 2, 0), ("a",))), ("case A of B => 1 end", ("arity", (2, 2, 0, 0), ("B",))), ("fn x => x x end", ("endless",)),
        ("(fn x => x end) = (fn x => x end)", ("unequal",)), ("ref []", ("open", (1,), "it")), ("1 + \"a\"", ("clash",)), ("(1 : u)", ("unbound", (2, 2), ("u",))),
        ("val rec f = fn x => y end", ("unbound", (1, 0, 1, 0, 2), ("y",))), ("val rec f = fn x => x x end", ("endless",)), ("type u = v", ("unbound", (3,), ("v",))),
        ("type t = int", ("twice", (), "t")), ("datatype t = C", ("twice", (), "t")), ("datatype u = A", ("twice", (), "A")), ("datatype u = C and v = C", ("twice", (1, 1, 2, 0), "C")),
        ("datatype u = C of u", ("empty", (1, 0), "u")), ("datatype u = C of int t", ("arity", (1, 0, 2, 0, 1), ("t",))), ("exception A", ("twice", (), "A")),
        ("exception C of u", ("unbound", (2,), ("u",))), ("exception C = A", ("unbound", (), ("A",))), ("exception Div = S.E", ("twice", (), "Div")), ("exception C = S.G", ("unbound", (), ("S", "G"))),
        ("structure S = struct end", ("twice", (), "S")), ("structure T = U", ("unbound", (2,), ("U",))), ("structure T = G(struct end)", ("unbound", (2,), ("G",))),
        ("structure T = F(struct end)", ("lacks", (2,), "type", ("t",))), ("structure T = F(struct type 'a t = 'a end)", ("empty", (2,), "d")),
        ("structure T = S :> N", ("lacks", (2,), "type", ("t",))), ("structure T = S : sig val k : string end", ("unlike", (2,), "value", ("k",))),
        ("structure T = struct structure U = S :> P end", ("unbound", (2, 1, 0, 2, 2), ("P",))),
        ("structure T = S :> N where type u = int", ("where", (2, 2), ("u",))), ("open T", ("unbound", (), ("T",))), ("signature N = sig end", ("twice", (), "N")),
        ("signature M = sig val a : u end", ("unbound", (2, 1, 0, 2), ("u",))), ("signature M = sig val a : int val a : int end", ("twice", (2, 1, 1), "a")),
        ("functor F(X : N) = X", ("twice", (), "F")), ("functor G(X : N) = struct val a = X.l end", ("unbound", (4, 1, 0, 2), ("X", "l"))),
        ("functor G(X : sig val a : u end) = X", ("unbound", (3, 1, 0, 2), ("u",))), ("functor G(X : N) = X :> sig val k : int end", ("unlike", (4,), "value", ("k",))))

    def test_all_kinds_of_refusals(self):
        for ahead in range(3):
            session = given(*self.AHEAD, *[f"val x = {k}" for k in range(ahead)])
            before = state(session)
            for text, wanted in self.REFUSED:
                reason = reason_of(session.phrase, text)
                self.assertEqual(reason[:len(wanted)], wanted, text)
                self.assertEqual(state(session), before)
                first = text.split(" ")[0]
                if first not in ("val", "type", "datatype", "exception", "structure", "open", "signature", "functor"):
                    self.assertEqual(reason_of(session.asked, text), reason)
                    text = f"val it = {text}"
                self.check_place(session, read_declaration(text), reason)

    def check_place(self, session, tree, reason):
        """The place is that of the typing of the program, without the number of the declaration, and leads somewhere."""
        number = len(session)
        whole = reason_of(typed_unit, (*session.phrases, tree))
        self.assertEqual(whole, (reason[0], (number, *reason[1]), *reason[2:]))
        part_at(tree, reason[1])

    def test_places_of_the_program_stay(self):
        session = given(*self.AHEAD, "val x = 1", "structure T = struct val y = x end")
        program = session.program
        self.assertEqual([place for place, _ in program.notes], [(1, 2, 1, 0), (4,), (5, 2, 1, 0)])
        self.assertEqual([place for place, _ in program.faces], [(1, 2), (3, 4), (5, 2)])
        self.assertEqual(program.notes, typed_unit(session.phrases).notes)
        self.assertEqual(program.faces, typed_unit(session.phrases).faces)


class KeepingTest(unittest.TestCase):
    def test_undo_and_redo(self):
        session = given("val x = read ()", "val y = (print \"a\"; x + 1)", "x * y", inputs=(3,))
        states = [state(given(*texts, inputs=(3,))) for texts in ((), ("val x = read ()",), ("val x = read ()", "val y = (print \"a\"; x + 1)"))] + [state(session)]
        self.assertEqual(session.undo(), ("val it = x * y",))
        self.assertEqual(state(session), states[2])
        self.assertEqual(session.undo(many=2), ('val y = (print "a"; x + 1)', "val x = read ()"))
        self.assertEqual(state(session), states[0])
        self.assertEqual(session.redo(many=2), ("val x = read ()", 'val y = (print "a"; x + 1)'))
        self.assertEqual(state(session), states[2])
        self.assertEqual((session.undo(many=0), session.redo(many=0), state(session) == states[2]), ((), (), True))
        self.assertEqual(reason_of(session.phrase, "1 div 0"), ("raised", "Div"))
        self.assertEqual(session.redo(), ("val it = x * y",))
        self.assertEqual(state(session), states[3])
        session.undo(many=2)
        session.phrase("x")
        self.assertRaises(NothingToUndo, session.redo)
        with self.assertRaises(NothingToUndo) as caught:
            session.undo(many=3)
        self.assertEqual(caught.exception.many, 3)
        for wrong in (-1, True, None, "1", (), 10 ** 70):
            for call in (session.undo, session.redo):
                with self.assertRaises(InvalidNumber) as caught:
                    call(many=wrong)
                self.assertIs(caught.exception.given, wrong)
        self.assertEqual([len(session), session.text("it")], [2, "3"])

    def test_during(self):
        session = given("val x = 1", "val y = 2")
        session.undo()
        before = state(session)

        def play(inner):
            self.assertIs(inner, session)
            inner.phrase("val z = 5")
            inner.undo(many=2)
            inner.phrase("val w = 6")
            return inner.text("w")
        self.assertEqual(session.during(play), "6")
        self.assertEqual(state(session), before)

        def fail(inner):
            play(inner)
            raise KeyError("x")
        self.assertRaises(KeyError, session.during, fail)
        self.assertEqual(state(session), before)
        self.assertEqual(session.during(lambda inner: inner.during(play)), "6")
        self.assertEqual(session.redo(), ("val y = 2",))

    def test_twins(self):
        session = given("val x = 1", "val y = 2", "val z = 3")
        session.undo()
        twin = session.twin()
        self.assertTrue(twin == session)
        self.assertEqual(twin.redo(), ("val z = 3",))
        self.assertTrue(twin != session)
        twin.undo(many=3)
        self.assertEqual((len(twin), len(session), session.redo()), (0, 2, ("val z = 3",)))

    def test_equality(self):
        self.assertTrue(given("val x = 1") == given("val  x = 1"))
        self.assertTrue(given("val x = 1") != given("val x = 2"))
        self.assertTrue(Session((1,)) != Session())
        one = given("val x = 1", "val y = 2")
        one.undo()
        self.assertTrue(one == given("val x = 1"))
        for odd in ODD:
            self.assertFalse(Session() == odd)
        with self.assertRaises(TypeError):
            list(one)

    def test_names(self):
        session = given("val x = 1", "structure S = struct val y = 2 end")
        self.assertEqual(session.names, ("x",))
        for wrong in (*ODD, "y", "S", "S.y", ("x",)):
            if wrong != "x":
                for call in (session.scheme_of, session.text):
                    with self.assertRaises(UnknownName) as caught:
                        call(wrong)
                    self.assertIs(caught.exception.wanted, wrong)

    def test_wrong_inputs(self):
        for wrong in (*ODD, (2 ** 62,), (True,), [1]):
            if not isinstance(wrong, tuple) or not all(type(n) is int and abs(n) < 2 ** 62 for n in wrong):
                self.assertRaises(InvalidOperation, Session, wrong)
        self.assertEqual(Session((1, 2)).inputs, (1, 2))

    def test_phrases_of_random_programs(self):
        many = 0
        for seed in range(12):
            unit = read_unit(random_text(random.Random(seed + 300), 2))
            run = Run(typed_unit(unit), (1, 2))
            run.go_on(most=20000)
            session = Session((1, 2))
            for tree in unit:
                if reason_of(session.phrase, write_declaration(tree)) is not None:
                    break
            if run.ends[0] == "done":
                many += 1
                self.assertEqual((session.phrases, session.output, session.reads), (unit, run.output, run.reads))
                self.assertEqual({name: session.text(name) for name in session.names}, {name: text for name, text in run.ends[1] if "." not in name})
                self.assertEqual(session.program, run.program)
            else:
                self.assertLess(len(session), len(unit))
        self.assertGreater(many, 3)

    def test_sessions_that_answer_alike(self):
        """[12.6]: two sessions that answer alike need not be equal."""
        one, other = Session(), Session()
        self.assertEqual(one.phrase("1 + 1"), other.phrase("2"))
        self.assertFalse(one == other)

    def test_a_fresh_session(self):
        texts = ("val r = ref 0", "val _ = r := read ()", "exception A", "(raise A : int)", "val x = !r", "val y = read ()", "read ()")
        session = Session((4, 5))
        stood = []
        for text in texts:
            if reason_of(session.phrase, text) is None:
                stood.append(text)
        self.assertEqual(len(stood), 5)
        self.assertEqual(state(session), state(given(*stood, inputs=(4, 5))))
        self.assertEqual(session.phrases, tuple(read_declaration(text) for text in stood))


if __name__ == "__main__":
    unittest.main()
