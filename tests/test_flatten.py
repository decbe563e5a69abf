"""Flattening: promises [8.5] and [8.6], part 8c."""

import random
import unittest

from letquay.code.core import core_nodes, free_units, is_core
from letquay.data.faces import Face
from letquay.errors import InvalidCode, InvalidFace, InvalidOperation, Refused, TooMany
from letquay.modules.flatten import flattened, picked
from letquay.text.reader import read_signature
from tests.odd import ODD
from tests.program_tools import both_runs, program, random_text
from tests.structure_maker import random_structures


def val(x):
    return ("value", x)


def struct(x):
    return ("structure", x)


def exn(x):
    return ("exception", x)


def name(key):
    return ("name", key)


def field(term, *keys):
    for key in keys:
        term = ("field", term, key)
    return term


def table(*keys):
    return ("table", tuple((key, name(key)) for key in keys))


IT = name(struct("It"))
KEPT = ("exception", "Match")


def pick(term, *fields):
    return ("let", ((IT, term),), ("table", tuple((key, field(IT, key) if worth is None else worth) for key, worth in fields)))


def core(text, **more):
    return flattened(program(text, **more))


def value(text, head=""):
    """The core term of an expression, bound to `v`."""
    found = core(f"{head} val v = {text}")
    return found[1][-1][1]


ONE = ("int", 1)


class ExpressionsTest(unittest.TestCase):
    def test_forms(self):
        x = name(val("x"))
        for text, wanted in (
                ("1", ONE), ('"a"', ("string", "a")), ("()", ("tuple", ())), ("(1, ())", ("tuple", (ONE, ("tuple", ())))),
                ("fn x => x + 1 end", ("fn", ((x, None, ("op", "+", (x, ONE))),))),
                ("fn 1 when True => 2 | _ => 1 end", ("fn", ((ONE, ("con", "True", None), ("int", 2)), (("any",), None, ONE)))),
                ("(fn x => x + 1 end) 1", ("call", ("fn", ((x, None, ("op", "+", (x, ONE))),)), ONE)),
                ("let x = 1 in x end", ("let", ((x, ONE),), x)),
                ("let rec f = fn x => x end and g = fn _ => f 1 end in f 1 end", ("let", ((None, (
                    (val("f"), ((x, None, x),)), (val("g"), ((("any",), None, ("call", name(val("f")), ONE)),)))),),
                    ("call", name(val("f")), ONE))),
                ("case 1 of x => x end", ("case", ONE, ((x, None, x),))),
                ("if True then 1 else 1", ("if", ("con", "True", None), ONE, ONE)),
                ("(1 handle _ => 1 end)", ("handle", ONE, ((("any",), None, ONE),))),
                ("(1; 1)", ("then", ONE, ONE)), ("while False do 1 end", ("while", ("con", "False", None), ONE)),
                ("(True andalso False)", ("both", ("con", "True", None), ("con", "False", None))),
                ("(True orelse False)", ("either", ("con", "True", None), ("con", "False", None))),
                ("(1 : int)", ONE), ("((1 : int) : int)", ONE), ("!(ref 1)", ("op", "!", (("op", "ref", (ONE,)),))),
                ("1 :: []", ("con", "Cons", ("tuple", (ONE, ("con", "Nil", None))))),
                ("(raise Div : int)", ("raise", ("packet", ("reserved", "Div"), None))),
                ("1 + 1", ("op", "+", (ONE, ONE)))):
            self.assertEqual(value(text), wanted, text)

    def test_constructors_and_exceptions(self):
        head = "datatype t = A | B of int exception E exception F of int structure S = struct datatype u = C of int exception G end"
        it = name(val("it"))

        def builder(make):
            return ("fn", ((it, None, make),))
        for text, wanted in (
                ("A", ("con", "A", None)), ("B", builder(("con", "B", it))), ("B 1", ("con", "B", ONE)),
                ("E", ("packet", name(exn("E")), None)), ("F", builder(("packet", name(exn("F")), it))),
                ("F 1", ("packet", name(exn("F")), ONE)), ("S.C 1", ("con", "C", ONE)), ("S.C", builder(("con", "C", it))),
                ("S.G", ("packet", field(name(struct("S")), exn("G")), None)), ("Match", ("packet", ("reserved", "Match"), None)),
                ("(B) 1", ("con", "B", ONE))):
            self.assertEqual(value(text, head), wanted, text)
        self.assertEqual(value("Cons"), builder(("con", "Cons", it)))

    def test_patterns(self):
        head = "datatype t = A | B of int exception E exception F of int structure S = struct exception G of int end"
        for text, wanted in (
                ("fn A => 1 | B x => x | _ => 1 end", (("con", "A", None), ("con", "B", name(val("x"))), ("any",))),
                ("fn E => 1 | F 1 => 1 | S.G x => x | Div => 1 end", (
                    ("packet", name(exn("E")), None), ("packet", name(exn("F")), ONE),
                    ("packet", field(name(struct("S")), exn("G")), name(val("x"))), ("packet", ("reserved", "Div"), None))),
                ("fn (x as (1, _), y :: []) => x | ((2, _) as x | x, []) => x end".replace("(2, _) as x | x", "x as (2, _) | x"), (
                    ("tuple", (("as", val("x"), ("tuple", (ONE, ("any",)))), ("con", "Cons", ("tuple", (name(val("y")), ("con", "Nil", None)))))),
                    ("tuple", (("or", ("as", val("x"), ("tuple", (("int", 2), ("any",)))), name(val("x"))), ("con", "Nil", None))))),
                ('fn "a" => 1 end', (("string", "a"),))):
            self.assertEqual(tuple(row[0] for row in value(text, head)[1]), wanted, text)

    def test_paths(self):
        head = "structure S = struct structure T = struct val x = 1 exception E end end"
        at = field(name(struct("S")), struct("T"))
        self.assertEqual(value("S.T.x", head), field(at, val("x")))
        self.assertEqual(value("S.T.E", head), ("packet", field(at, exn("E")), None))
        self.assertEqual(core(f"{head} structure R = S.T")[1][-1], (name(struct("R")), at))
        self.assertEqual(core(f"{head} exception F = S.T.E")[1][-1], (name(exn("F")), field(at, exn("E"))))
        self.assertEqual(core("exception F = Match")[1], ((name(exn("F")), ("reserved", "Match")),))


class DeclarationsTest(unittest.TestCase):
    def test_forms(self):
        self.assertEqual(core(""), ("table", ()))
        self.assertEqual(core("type t = int datatype d = A signature S = sig end"), ("table", ()))
        self.assertEqual(core("val (x, y) = (1, 1) exception E exception F = E val rec f = fn _ => 1 end"), ("let", (
            (("tuple", (name(val("x")), name(val("y")))), ("tuple", (ONE, ONE))), (name(exn("E")), ("exception", "E")),
            (name(exn("F")), name(exn("E"))), (None, ((val("f"), ((("any",), None, ONE),)),))),
            table(exn("E"), exn("F"), val("f"), val("x"), val("y"))))
        self.assertEqual(core("structure S = struct val x = 1 end structure T = struct end"), ("let", (
            (name(struct("S")), ("let", ((name(val("x")), ONE),), table(val("x")))), (name(struct("T")), ("table", ()))),
            table(struct("S"), struct("T"))))
        self.assertEqual(core("val x = 1 val x = 2"), ("let", ((name(val("x")), ONE), (name(val("x")), ("int", 2))), table(val("x"))))
        self.assertEqual(core("val _ = 1"), ("let", ((("any",), ONE),), ("table", ())))

    def test_open(self):
        head = "structure S = struct {} end open S"
        s = name(struct("S"))
        for inside, wanted in (
                ("", ()), ("type t = int datatype d = A", ()), ("val x = 1", ((name(val("x")), field(s, val("x"))),)),
                ("exception E", ((name(exn("E")), field(s, exn("E"))),)),
                ("val y = 1 val x = 1 exception E structure T = struct end datatype d = A", ((
                    ("tuple", (name(exn("E")), name(struct("T")), name(val("x")), name(val("y")))),
                    ("tuple", (field(s, exn("E")), field(s, struct("T")), field(s, val("x")), field(s, val("y"))))),))):
            found = core(head.format(inside))
            self.assertEqual(found[1][1:], wanted, inside)
            self.assertEqual(found[2], table(struct("S")))

    def test_what_is_hidden(self):
        s, x, y, kept = name(struct("S")), val("x"), val("y"), name(KEPT)
        opened = (("tuple", (name(x), name(y))), ("tuple", (field(s, x), field(s, y))))
        head = "structure S = struct val x = 1 val y = 2 end "

        def pairs(text):
            found = core(head + text)
            return found[1][1:], dict(found[2][1])
        rows, fields = pairs("val x = 1 open S")
        self.assertEqual(rows, ((name(x), ONE), (kept, ("table", ((x, name(x)),))), opened))
        self.assertEqual(fields, {struct("S"): s, x: field(kept, x)})
        rows, fields = pairs("val x = 1 open S val x = 1")
        self.assertEqual(fields[x], name(x))
        rows, fields = pairs("val x = 1 open S open S")
        self.assertEqual(rows, ((name(x), ONE), (kept, ("table", ((x, name(x)),))), opened, opened))
        rows, fields = pairs("val x = 1 open S val y = 1 open S val z = x")
        self.assertEqual(rows[:-1], (
            (name(x), ONE), (kept, ("table", ((x, name(x)),))), opened, (name(y), ONE),
            (kept, ("table", ((x, field(kept, x)), (y, name(y))))), opened))
        self.assertEqual(fields, {struct("S"): s, x: field(kept, x), y: field(kept, y), val("z"): name(val("z"))})
        rows, fields = pairs("val x = 1 open S val x = 1 open S")
        self.assertEqual(rows[3:], ((name(x), ONE), (kept, ("table", ((x, name(x)),))), opened))
        rows, fields = pairs("open S val x = 1")
        self.assertEqual((rows, fields[x]), ((opened, (name(x), ONE)), name(x)))

    def test_hidden_structures_and_exceptions(self):
        text = "structure S = struct structure T = struct end exception E end structure T = struct val a = 1 end exception E open S"
        found = core(text)
        keys = (exn("E"), struct("T"))
        self.assertEqual(found[1][3], (name(KEPT), table(*keys)))
        self.assertEqual([pair for pair in found[2][1] if pair[0] in keys], [(key, field(name(KEPT), key)) for key in keys])

    def test_a_constructor_hides_no_key(self):
        found = core("structure S = struct datatype d = E end exception E open S val x = E")
        self.assertEqual(found[1][-1][1], ("con", "E", None))
        self.assertEqual(dict(found[2][1])[exn("E")], name(exn("E")))


class ModulesTest(unittest.TestCase):
    def test_picked_structures(self):
        text = "structure S = struct val x = 1 exception E structure T = struct val y = 1 val z = 1 end datatype d = A end {} sig val x : int structure T : sig val y : int end exception E datatype d = A end"
        inside = core("structure S = struct val x = 1 exception E structure T = struct val y = 1 val z = 1 end datatype d = A end")[1][0][1]
        inner = pick(field(IT, struct("T")), (val("y"), None))
        wanted = pick(inside, (exn("E"), None), (struct("T"), inner), (val("x"), None))
        for sign in (":>", ":"):
            self.assertEqual(core(text.format(sign))[1][0], (name(struct("S")), wanted))
        self.assertEqual(core("structure S = struct val x = 1 end :> sig end")[1][0][1],
                         ("let", ((IT, ("let", ((name(val("x")), ONE),), table(val("x")))),), ("table", ())))

    def test_functors(self):
        text = "functor F(X : sig val a : int end) = struct val b = X.a end structure A = F(struct val c = 1 val a = 1 end)"
        found = core(text)
        x = name(struct("X"))
        self.assertEqual(found[1][0], (name(("functor", "F")), ("fn", ((x, None, (
            "let", ((name(val("b")), field(x, val("a"))),), table(val("b")))),))))
        argument = ("let", ((name(val("c")), ONE), (name(val("a")), ONE)), table(val("a"), val("c")))
        self.assertEqual(found[1][1], (name(struct("A")), ("call", name(("functor", "F")), pick(argument, (val("a"), None)))))
        self.assertEqual(found[2], table(struct("A")))

    def test_functors_that_open_their_parameter(self):
        found = core("functor F(X : sig val a : int exception E datatype t = K of int end) = struct open X val a = K a val e = E end")
        body = found[1][0][1][1][0][2]
        x = name(struct("X"))
        self.assertEqual(body[1][0], (("tuple", (name(exn("E")), name(val("a")))), ("tuple", (field(x, exn("E")), field(x, val("a"))))))
        self.assertEqual(body[1][1], (name(val("a")), ("con", "K", name(val("a")))))

    def test_units_with_a_signature(self):
        unit = program("val x = 1 val y = 2", signature=read_signature("sig val y : int end"))
        self.assertEqual(flattened(unit), pick(
            ("let", ((name(val("x")), ONE), (name(val("y")), ("int", 2))), table(val("x"), val("y"))), (val("y"), None)))

    def test_units_that_use_units(self):
        used = program("val x = 1 exception E datatype t = A of int structure T = struct val z = 1 end")
        found = core("val y = U.x val e = U.E val a = U.A 1 open U val z = T.z", book=used.book, uses={"U": used.face, "V": Face()})
        u = name(struct("U"))
        self.assertEqual([pair[1] for pair in found[1][:3]], [field(u, val("x")), ("packet", field(u, exn("E")), None), ("con", "A", ONE)])
        self.assertEqual((is_core(found), free_units(found)), (True, ("U",)))

    def test_a_client_of_a_sealed_structure(self):
        text = "structure S = {} :> sig type t val a : t val f : t -> int end val x = S.f S.a"
        one = core(text.format("struct type t = int val a = 1 val f = fn n => n end end"))
        other = core(text.format("struct type t = string val a = \"q\" val f = fn _ => 1 end val more = 2 end"))
        self.assertEqual((one[1][1:], one[2]), (other[1][1:], other[2]))
        self.assertEqual((one[1][0][0], one[1][0][1][2]), (other[1][0][0], other[1][0][1][2]))


class BoundsTest(unittest.TestCase):
    def test_wrong_arguments(self):
        term = ("int", 1)
        for odd in ODD:
            self.assertRaises(InvalidOperation, flattened, odd)
            self.assertRaises(InvalidFace, picked, odd, odd)
            if not is_core(odd):
                self.assertRaises(InvalidCode, picked, Face(), odd)
        self.assertEqual(picked(Face(), term), ("let", ((IT, term),), ("table", ())))

    def test_picked(self):
        unit = program("val x = 1 exception E structure S = struct val y = 1 end datatype t = A")
        self.assertEqual(picked(unit.face, name(struct("U"))), pick(
            name(struct("U")), (exn("E"), None), (struct("S"), pick(field(IT, struct("S")), (val("y"), None))), (val("x"), None)))

    def test_too_great(self):
        head = "structure A = struct " + " ".join(f"val {'ab'[k % 2]}{'abcdefghij'[k // 2 % 10]}{'abcdefghij'[k // 20]} = 1" for k in range(100)) + " end "
        self.assertTrue(is_core(core(head + "open A " * 40)))
        with self.assertRaises(TooMany) as caught:
            core(head + "open A " * 80)
        self.assertEqual(caught.exception.limit, 20000)

    def test_too_deep(self):
        def nested(n):
            text = "signature Sa = sig end structure Ba = struct end "
            for one, two in zip("abcdefghij", "bcdefghij"[:n]):
                text += f"signature S{two} = " + "sig structure A : " * 27 + f"S{one}" + " end" * 27 + " "
                text += f"structure B{two} = " + "struct structure A = " * 27 + f"B{one}" + " end" * 27 + " "
            return f"{text} structure Z = B{'abcdefghij'[n]} :> S{'abcdefghij'[n]}"
        self.assertTrue(is_core(core(nested(2))))
        with self.assertRaises(TooMany) as caught:
            core(nested(3))
        self.assertEqual(caught.exception.limit, 20000)

    def test_all_terms_are_core_terms_and_run_alike(self):
        """[8.6]; the terms of random programs, with the machine as the one who runs them."""
        for seed in range(25):
            unit = program(random_text(random.Random(seed), 2))
            found = flattened(unit)
            self.assertTrue(is_core(found))
            self.assertEqual(free_units(found), ())
            self.assertGreater(core_nodes(found), len(unit.declarations))
            run, machine, _ = both_runs(unit, (3, 4))
            self.assertEqual((machine.output, len(machine.left)), (run.output, 2 - run.reads), seed)
            self.assertEqual(machine.ends[0], run.ends[0])


    def test_structures_run_alike(self):
        """What is opened, hidden, cut and applied is the same by the rules and by the machine."""
        counts = {"open": 0, "Fa(": 0, ":>": 0}
        for seed in range(150):
            text = random_structures(random.Random(seed))
            try:
                unit = program(text)
            except Refused:
                continue
            run, machine, _ = both_runs(unit)
            self.assertTrue(is_core(flattened(unit)), seed)
            self.assertEqual((machine.ends, machine.shown(unit.book, unit.face)), (("done",), run.ends[1]), seed)
            for word in counts:
                counts[word] += word in text
        self.assertGreater(min(counts.values()), 30, counts)


if __name__ == "__main__":
    unittest.main()
