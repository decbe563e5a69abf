"""Runs by the rules: promises [6.1] to [6.11], part 6a, and what [0.9], [0.13] and [0.14] say of runs."""

import random
import unittest

from letquay.errors import InvalidNumber, InvalidOperation, InvalidUnit, NothingToUndo
from letquay.rules.operations import MAX_STRING as JOINED
from letquay.rules.runs import MAX_SHOWN, MAX_STEPS, MAX_STRING, Run, outcome
from letquay.rules.texts import MAX_SHOWN as TOLD
from tests.odd import ODD
from tests.program_tools import program, random_text

# For each program the kinds of the next steps, by their first letters, with the number of frames.
TRACES = (
    ("", "-0"),
    ("type t = int", "d1 -0"),
    ("signature S = sig end", "d1 -0"),
    ("val x = 1", "d1 l2 g2 -0"),
    ("val x = (1, ())", "d1 l2 l3 g3 l3 g3 g2 -0"),
    ("datatype t = A | B of int exception E exception F = E val rec f = fn x => x end", "d1 d1 d1 d1 -0"),
    ("val x = fn 1 => 2 | n => n end 3", "d1 l2 l3 g3 l3 g3 t2 t2 l2 g2 -0"),
    ("val x = let rec f = fn x => x end in f 1 end", "d1 l2 l2 l3 g3 l3 g3 t2 l2 g2 -0"),
    ("val x = let (a, b) = (1, 2) in a end", "d1 l2 l3 l4 g4 l4 g4 g3 l2 g2 -0"),
    ("val x = let 1 = 2 in 3 end", "d1 l2 l3 g3 y2 y1 -0"),
    ("val 1 = 2", "d1 l2 g2 y1 -0"),
    ("val x = case 1 of 2 => 0 | n when n < 1 => 1 | _ => 2 end",
     "d1 l2 l3 g3 t2 t2 l3 l4 g4 l4 g4 g3 t2 l2 g2 -0"),
    ("val x = case 1 of n when True => 5 end", "d1 l2 l3 g3 t2 l3 g3 l2 g2 -0"),
    ("val x = if True then 1 else 2", "d1 l2 l3 g3 l2 g2 -0"),
    ("exception E val x = (raise E) handle Div => 1 | E => 2 end", "d1 d1 l2 l3 l4 g4 y3 t2 t2 l2 g2 -0"),
    ("exception E val x = (raise E) handle Div => 1 end", "d1 d1 l2 l3 l4 g4 y3 t2 t2 y2 y1 -0"),
    ("val x = 5 handle _ => 1 end", "d1 l2 l3 g3 g2 -0"),
    ("val x = (1; 2)", "d1 l2 l3 g3 l2 g2 -0"),
    ("val x = while False do () end", "d1 l2 l3 g3 g2 -0"),
    ("val x = let i = ref True in while !i do i := False end end",
     "d1 l2 l3 l4 g4 g3 l2 l3 l4 g4 g3 l3 l4 g4 l4 g4 g3 l3 l4 g4 g3 g2 -0"),
    ("val x = False andalso True", "d1 l2 l3 g3 g2 -0"),
    ("val x = True andalso False", "d1 l2 l3 g3 l2 g2 -0"),
    ("val x = True orelse False", "d1 l2 l3 g3 g2 -0"),
    ("val x = False orelse True", "d1 l2 l3 g3 l2 g2 -0"),
    ("val x = (1 : int)", "d1 l2 l2 g2 -0"),
    ("structure S = struct end", "d1 l2 g2 -0"),
    ("structure S = struct val x = 1 end open S val y = S.x structure T = S",
     "d1 l2 d3 l4 g4 g2 d1 d1 l2 g2 d1 l2 g2 -0"),
    ("structure S = struct val x = 1 val y = 2 end", "d1 l2 d3 l4 g4 d3 l4 g4 g2 -0"),
    ("structure S = struct val x = 1 end :> sig end", "d1 l2 l3 d4 l5 g5 g3 g2 -0"),
    ("structure S = struct end : sig end", "d1 l2 l3 g3 g2 -0"),
    ("functor F(X : sig val a : int end) = struct val b = X.a end structure A = F(struct val a = 1 end)",
     "d1 d1 l2 l3 d4 l5 g5 g3 l2 d3 l4 g4 g2 -0"),
    ("val x = (1, (2, 3)) = (1, (2, 4))",
     "d1 l2 l3 l4 g4 l4 l5 g5 l5 g5 g4 g3 l3 l4 g4 l4 l5 g5 l5 g5 g4 g3 c2 c2 c2 c2 c2 g2 -0"),
    ("val x = () = ()", "d1 l2 l3 g3 l3 g3 c2 g2 -0"),
    ("datatype t = A of int val f = A val x = f 1", "d1 d1 l2 g2 d1 l2 l3 g3 l3 g3 g2 -0"),
    ("val x = (fn 1 => 2 end) 3", "d1 l2 l3 g3 l3 g3 t2 t2 y2 y1 -0"),
    ("val x = (raise Div : int)", "d1 l2 l2 l3 g3 y2 y1 -0"),
    ("val x = 1 div 0", "d1 l2 l3 g3 l3 g3 y2 y1 -0"),
    ("val x = read ()", "d1 l2 l3 g3 y2 y1 -0"),
)
LETTERS = {"declare": "d", "look": "l", "give": "g", "try": "t", "compare": "c", "carry": "y", None: "-"}


def trace(text):
    run = Run(program(text))
    found = [f"{LETTERS[run.next]}{run.frames}"]
    while not run.is_over():
        word = run.step()
        found.append(f"{LETTERS[word]}{run.frames}")
    return " ".join(found)


def ends(text, inputs=()):
    return outcome(program(text), inputs)


def values(text, inputs=()):
    word, pairs = ends(text, inputs)
    return dict(pairs)


def printed(text, inputs=()):
    run = Run(program(text), inputs)
    run.go_on(most=MAX_STEPS)
    return run.output


class StepsTest(unittest.TestCase):
    """[6.1] to [6.8]: the kind of each step, and the number of frames behind it."""

    def test_traces(self):
        for text, wanted in TRACES:
            self.assertEqual(trace(text), wanted, text)

    def test_scopes(self):
        for text, name, wanted in (
                ("val x = 1 val f = fn () => x end val x = 2 val y = f ()", "y", "1"),
                ("val x = 1 val x = x + 1", "x", "2"),
                ("structure S = struct val x = 5 end val x = 1 open S val y = x", "y", "5"),
                ("structure S = struct val x = 5 end val x = 1 open S val y = x", "x", "1"),
                ("val rec f = fn 0 => 1 | n => g (n - 1) end and g = fn 0 => 2 | n => f (n - 1) end val x = (f 3, g 3)", "x", "(2, 1)"),
                ("val y = case (1, 2) of (a, 3) => a | (_, a) => a end", "y", "2"),
                ("val x = 7 val y = case 1 of x when x = 7 => 0 | n => x + n end", "y", "8"),
                ("exception E of int exception F = E val x = (raise F 4) handle E n => n end", "x", "4"),
                ("exception E exception F val x = (raise F) handle E => 1 | F => 2 end", "x", "2"),
                ("datatype t = A | B of t val f = B val x = f (B A)", "x", "B (B A)"),
                ("exception E of int val f = E val x = (raise f 3) handle E n => n end", "x", "3"),
                ("val x = case 2 of (1 | 2) => 5 | _ => 6 end", "x", "5"),
                ("val x = case (1, 2) of ((a, 3) | (3, a) | (a, _)) => a end", "x", "1"),
                ("val x = case (3, 4) of c as ((a, b) | (b, a)) => (a, b, c) end", "x", "(3, 4, (3, 4))"),
                ("val x = let x = 1 in let f = fn y => x + y end in let x = 10 in f x end end end", "x", "11")):
            self.assertEqual(values(text)[name], wanted, text)

    def test_open_does_not_come_into_the_table(self):
        text = "structure A = struct val x = 1 val y = 2 end structure B = struct open A val z = x end"
        self.assertEqual(values(text), {"A.x": "1", "A.y": "2", "B.z": "1"})
        text = "structure A = struct val x = 1 end structure B = struct val x = 5 open A val z = x end"
        self.assertEqual(values(text), {"A.x": "1", "B.x": "5", "B.z": "1"})

    def test_cut_structures(self):
        text = """
        signature G = sig val a : int structure T : sig val b : int end end
        structure S = struct val a = 1 val c = 2 exception E structure T = struct val b = 3 val d = 4 end end :> sig include G exception E end
        structure R = S : sig structure T : sig end end
        structure P = struct open S end
        val x = (raise S.E) handle S.E => S.T.b end"""
        self.assertEqual(values(text), {"S.T.b": "3", "S.a": "1", "x": "3"})
        text = """
        signature G = sig type t val a : t end
        structure S = struct type t = int val a = 1 val b = 2 end
        structure N = S : (G where type t = int) end""".replace("(G where type t = int) end", "G where type t = int")
        self.assertEqual(values(text), {"N.a": "1", "S.a": "1", "S.b": "2"})

    def test_applications(self):
        text = """
        functor F(X : sig val n : int end) = struct exception E of int val get = fn e => (case e of E n => n + X.n | _ => ~1 end) end end
        structure A = F(struct val n = 10 val hidden = 1 end)
        structure B = F(struct val n = 20 end)
        val x = (A.get (A.E 1), A.get (B.E 1), B.get (B.E 1), B.get (A.E 1))"""
        self.assertEqual(values(text)["x"], "(11, ~1, 21, ~1)")
        text = "val k = 5 functor F(X : sig end) = struct val y = k end val k = 6 structure A = F(struct end)"
        self.assertEqual(values(text)["A.y"], "5")
        text = "functor F(X : sig end) = struct val r = ref 0 end structure A = F(struct end) structure B = F(struct end) val x = (A.r := 3; (A.r = B.r, !(B.r)))"
        self.assertEqual(values(text)["x"], "(False, 0)")
        self.assertEqual(ends("functor F(X : sig end) = struct val y = 1 div 0 end structure A = F(struct end)"), ("raised", "Div"))


class MatchesTest(unittest.TestCase):
    """[6.6], [6.7], [0.13]: rows, guards, and exceptions on their way."""

    def test_match_is_raised(self):
        for text in ("val x = (fn 1 => 2 end) 3", "val x = case 1 of 2 => 0 end", "val x = let (1, y) = (2, 3) in y end",
                     "val (1, y) = (2, 3)", "val x = case 1 of n when False => n end", "val rec f = fn 0 => 1 end val x = f 2"):
            self.assertEqual(ends(text), ("raised", "Match"), text)
        self.assertEqual(values("val x = (case 1 of 2 => 0 end) handle Match => 9 end"), {"x": "9"})

    def test_a_handle_whose_rows_do_not_meet(self):
        self.assertEqual(ends("exception E of int val x = (raise E 3) handle E 4 => 1 | Div => 2 end"), ("raised", "E"))
        self.assertEqual(values("exception E of int val x = ((raise E 3) handle E 4 => 1 end) handle E n => n end"), {"x": "3"})
        self.assertEqual(values("val x = (raise Div) handle Div when False => 1 | e when True => 2 end"), {"x": "2"})

    def test_exceptions_out_of_rows_and_guards(self):
        for text, wanted in (
                ("val x = (case 1 of n when 1 div 0 = n => 1 | _ => 2 end) handle Div => 3 end", "3"),
                ("val x = ((raise End) handle End => 1 div 0 end) handle Div => 4 end", "4"),
                ("val x = ((raise End) handle e when 1 div 0 = 1 => 1 end) handle Div => 5 | End => 6 end", "5"),
                ("val f = fn n when n div 0 = 0 => 1 | _ => 2 end val x = f 1 handle Div => 7 end", "7"),
                ("val x = (1 + (2 + (raise Div))) handle Div => 8 end", "8")):
            self.assertEqual(values(text)["x"], wanted, text)

    def test_over_by_an_exception(self):
        run = Run(program("exception E of int exception F = E val y = 1 val x = (raise F 3; 1)"))
        run.go_on()
        self.assertEqual((run.ends, run.next, run.frames, run.is_over()), (("raised", "E"), None, 0, True))
        self.assertEqual(str(run), f"run: {len(run)} steps, raised E")


class OperationsTest(unittest.TestCase):
    """[6.8], [0.9]."""

    def test_integers(self):
        most, least = 2 ** 62 - 1, -(2 ** 62)

        def told(n):
            return f"~{-n}" if n < 0 else str(n)

        def wrapped(v):
            return (v + 2 ** 62) % 2 ** 63 - 2 ** 62
        numbers = (0, 1, -1, 2, 3, -3, 7, -7, most, least, most - 1, least + 1, 2 ** 31, -(2 ** 31))
        for one in numbers:
            text = "\n".join(
                f"val v{'abcdefghijklmn'[k]} = ({told(one)} + {told(two)}, {told(one)} - {told(two)}, {told(one)} * {told(two)},"
                f" {told(one)} < {told(two)}, {told(one)} = {told(two)}, ({told(one)} div {told(two)}) handle Div => 77 end,"
                f" ({told(one)} mod {told(two)}) handle Div => 77 end)" for k, two in enumerate(numbers))
            found = values(text)
            for k, two in enumerate(numbers):
                wanted = (wrapped(one + two), wrapped(one - two), wrapped(one * two), one < two, one == two,
                          wrapped(one // two) if two else 77, wrapped(one % two) if two else 77)
                told_all = ", ".join(str(w) if isinstance(w, bool) else told(w) for w in wanted)
                self.assertEqual(found["v" + "abcdefghijklmn"[k]], f"({told_all})", (one, two))

    def test_least_by_minus_one(self):
        self.assertEqual(values("val x = ~4611686018427387904 div ~1"), {"x": "~4611686018427387904"})
        self.assertEqual(values("val x = ~4611686018427387904 mod ~1"), {"x": "0"})
        self.assertEqual(values("val x = 4611686018427387903 + 1"), {"x": "~4611686018427387904"})

    def test_strings(self):
        text = 'val rec times = fn (0, s) => "" | (n, s) => s ^ times (n - 1, s) end val ten = times (10, "abcdefghij") val big = times (100, ten)'
        self.assertEqual(len(values(text)["big"]), MAX_STRING + 2)
        self.assertEqual(ends(text + ' val x = big ^ "a"'), ("raised", "Size"))
        self.assertEqual(values(text + ' val x = big ^ ""')["x"], values(text)["big"])
        self.assertEqual(values('val x = (text ~5, text 0, text 12, "a\\"b\\\\" ^ "c")'), {"x": '("~5", "0", "12", "a\\"b\\\\c")'})
        self.assertEqual((MAX_STRING, MAX_SHOWN), (JOINED, TOLD))

    def test_read_and_print(self):
        unit = program('val a = read () val b = (read ()) handle End => 0 end val c = (print (text (a - b)); print "z")')
        for inputs, wanted, lines, reads in (((5, 6, 7), "6", ("~1", "z"), 2), ((5,), "0", ("5", "z"), 1)):
            run = Run(unit, inputs)
            run.go_on()
            self.assertEqual((dict(run.ends[1])["b"], run.output, run.reads), (wanted, lines, reads))
        self.assertEqual(outcome(unit), ("raised", "End"))

    def test_references(self):
        for text, wanted in (
                ("val a = ref 1 val b = ref 1 val x = (a = a, a = b, !a = !b)", "(True, False, True)"),
                ("val a = ref 1 val b = a val x = (b := 5; !a)", "5"),
                ("val a = ref (ref 1) val x = (!a := 4; !(!a))", "4"),
                ("val f = ref (fn x => x + 1 end) val x = (f := (fn x => x * 2 end); !f 5)", "10")):
            self.assertEqual(values(text)["x"], wanted, text)

    def test_equality(self):
        for text, wanted, steps in (
                ("1 = 1", "True", 1), ('"a" = "b"', "False", 1), ("True = True", "True", 1), ("True = False", "False", 1),
                ("(1, 2) = (1, 2)", "True", 3), ("(1, 2) = (2, 2)", "False", 2), ("((1, 2), 3) = ((1, 2), 4)", "False", 5),
                ("(1 :: 2 :: []) = (1 :: 2 :: [])", "True", 7), ("(1 :: []) = []", "False", 1),
                ("A (1, B) = A (1, B)", "True", 4), ("A (1, B) = A (1, A (2, B))", "False", 4), ("((), ()) = ((), ())", "True", 3)):
            run = Run(program(f"datatype t = B | A of int * t val x = ({text})"))
            many = 0
            while not run.is_over():
                many += run.next == "compare"
                run.step()
            self.assertEqual((run.ends[1][0][1], many), (wanted, steps), text)


class TailTest(unittest.TestCase):
    """[6.9], [0.12]: how many frames calls leave."""

    def frames_of(self, body, name="f", most=2000):
        run = Run(program(f"exception E val rec {name} = {body} val x = {name} 40"))
        found = 0
        while not run.is_over() and len(run) < most:
            found = max(found, run.frames)
            run.step()
        self.assertTrue(run.is_over(), body)
        return found

    def test_calls_in_tail_place(self):
        least = self.frames_of("fn 0 => 1 | n => f (n - 1) end")
        for row in ("case n of m => f (m - 1) end", "if n < 0 then 1 else f (n - 1)", "if 0 < n then f (n - 1) else 1",
                    "let m = n - 1 in f m end", "let rec g = fn m => m end in f (n - 1) end", "((); f (n - 1))", "(f (n - 1) : int)",
                    "(1; 2; f (n - 1))", "let rec g = fn m => f (m - 1) end in g n end", "(raise E) handle E => f (n - 1) end"):
            many = self.frames_of(f"fn 0 => 1 | n => {row} end")
            self.assertLessEqual(many, least + 2, row)
        for row in ("n = n andalso f (n - 1)", "n < 0 orelse f (n - 1)"):
            self.assertLessEqual(self.frames_of(f"fn 0 => True | n => {row} end"), least + 2, row)

    def test_calls_in_other_places(self):
        for row in ("1 + f (n - 1)", "(f (n - 1); 1)", "f (n - 1) handle E => 1 end", "case f (n - 1) of m => m end",
                    "let m = f (n - 1) in m end", "if f (n - 1) = 1 then 1 else 1"):
            self.assertGreater(self.frames_of(f"fn 0 => 1 | n => {row} end", most=10000), 40, row)
        self.assertGreater(self.frames_of("fn 0 => True | n => (case n of m when f (m - 1) => True | _ => False end) end"), 40)

    def test_what_an_exception_leaves(self):
        run = Run(program("exception E val rec f = fn 0 => raise E | n => 1 + f (n - 1) end val x = (f 30) handle E => 5 end"))
        looked = caught = None
        while not run.is_over():
            before, word = run.frames, run.next
            run.step()
            if word == "carry" and run.next == "try":
                caught = run.frames
            looked = looked or (run.frames if run.frames == 2 else None)
        self.assertEqual((looked, caught), (2, 2))


class TextsTest(unittest.TestCase):
    """[6.11]."""

    def test_texts(self):
        for text, wanted in (
                ("(1, \"a\", ~2, ())", '(1, "a", ~2, ())'), ("1 :: 2 :: []", "[1, 2]"), ("([] : int list)", "[]"),
                ("fn x => x + 1 end", "fn"), ("A", "fn"), ("A 1", "A 1"), ("A ~1", "A ~1"), ("S (A 1)", "S (A 1)"),
                ("S B", "S B"), ("P (1, B)", "P (1, B)"), ("L (1 :: [])", "L [1]"), ("L []", "L []"), ("ref 1", "ref 1"),
                ("ref (ref 1)", "ref (ref 1)"), ("ref (A 1)", "ref (A 1)"), ("ref B", "ref B"), ("R (ref 1)", "R (ref 1)"),
                ("(E, F 1, Div)", "(E, F, Div)"), ("G 1", "F"), ("[] :: (1 :: []) :: []", "[[], [1]]"),
                ('"a\\"b\\\\c"', '"a\\"b\\\\c"'), ("(True, False)", "(True, False)"), ("Some None", "Some None"),
                ("Some (fn x => x + 1 end)", "Some fn"), ("Some (1, 2)", "Some (1, 2)"), ("Some (1 :: [])", "Some [1]"),
                ("(ref 1) :: []", "[ref 1]")):
            head = """datatype t = A of int | B | S of t | P of int * t | L of int list | R of int ref
            datatype 'a opt = None | Some of 'a exception E exception F of int exception G = F """
            source = f"{head} val x = ({text})" if text not in ("Some None",) else f"{head} val x : y = 1".replace(
                "val x : y = 1", "val x = (Some None : int opt opt)")
            self.assertEqual(values(source)["x"], wanted, text)

    def test_abstract_types_and_variables(self):
        text = """structure S = struct type t = int datatype d = D of int * t val z = 1 val d = D (1, 2) val l = z :: [] val f = fn x => x end end
        :> sig type t datatype d = D of int * t val z : t val d : d val l : t list val f : t -> t end
        val a = [] val x = (S.z, S.d, S.l, a, S.f) val o = ref S.z"""
        self.assertEqual(values(text), {
            "S.d": "D (1, -)", "S.f": "fn", "S.l": "[-]", "S.z": "-", "a": "[]", "o": "ref -", "x": "(-, D (1, -), [-], [], fn)"})
        self.assertEqual(values("val rec f = fn x => f x end val x = (fn y => y end, [])")["x"], "(fn, [])")

    def test_what_a_reference_has_at_the_end(self):
        self.assertEqual(values("val r = ref 1 val s = (r, 5) val _ = r := 7")["s"], "(ref 7, 5)")

    def test_a_reference_in_itself(self):
        text = "datatype t = N | T of t ref val r = ref N val _ = r := T r"
        found = values(text)["r"]
        self.assertTrue(found.startswith("ref (T (ref (T (ref"))
        self.assertEqual(found.count("ref") + found.count("T"), 400)
        self.assertTrue(found.endswith("T (..)" + ")" * 399), found[-20:])

    def test_four_hundred_nodes(self):
        head = "val rec upto = fn 0 => [] | n => n :: upto (n - 1) end datatype t = N | T of t val rec deep = fn 0 => N | n => T (deep (n - 1)) end "
        whole = {}
        for text in ("val a = upto 399", "val b = upto 400", "val c = (upto 200, upto 198, 1)", "val d = (upto 397, 5, 6)",
                     "val e = (upto 398, 5, 6)"):
            whole.update(values(head + text))
        self.assertEqual(whole["a"], "[" + ", ".join(str(n) for n in range(399, 0, -1)) + "]")
        self.assertEqual(whole["b"], "[" + ", ".join(str(n) for n in range(400, 1, -1)) + ", ..]")
        self.assertTrue(whole["c"].endswith("2, ..], ..)"), whole["c"][-20:])
        self.assertTrue(whole["d"].endswith("1], 5, ..)"))
        self.assertTrue(whole["e"].endswith("1], ..)"))
        found = {**values(head + "val a = deep 399"), **values(head + "val b = deep 400 "), **values(head + "val c = deep 401")}
        self.assertEqual(found["a"], "T (" * 398 + "T N" + ")" * 398)
        self.assertEqual(found["b"], "T (" * 399 + "T .." + ")" * 399)
        self.assertEqual(found["c"], "T (" * 399 + "T (..)" + ")" * 399)

    def test_ends(self):
        text = "val z = 1 structure S = struct val b = 2 structure T = struct val a = 3 end val a = 4 end structure R = struct val q = 0 end val b = 5"
        self.assertEqual(ends(text), ("done", (
            ("R.q", "0"), ("S.T.a", "3"), ("S.a", "4"), ("S.b", "2"), ("b", "5"), ("z", "1"))))
        self.assertEqual(ends("val x = 1 val x = True"), ("done", (("x", "True"),)))


class RunTest(unittest.TestCase):
    """Part 6a and [6.10]."""

    def test_examples(self):
        run = Run(program("val x = 1 + 2"))
        self.assertEqual([run.frames, run.next, run.go_on(), len(run), run.frames, run.ends], [
            1, "declare", 7, 7, 0, ("done", (("x", "3"),))])
        reads = program("val x = read () div 2 handle End => ~1 end")
        self.assertEqual([outcome(reads), outcome(reads, (9,))], [("done", (("x", "~1"),)), ("done", (("x", "4"),))])

    def test_texts_of_runs(self):
        run = Run(program("val x = 1 + 2"))
        found = [str(run)]
        run.go_on(most=3)
        found.append(str(run))
        run.go_on()
        self.assertEqual([*found, str(run)], ["run: 0 steps, 1 frames", "run: 3 steps, 3 frames", "run: 7 steps, done"])
        self.assertEqual(str(Run(program(""))), "run: 0 steps, done")

    def test_wrong_arguments(self):
        unit = program("val x = 1")
        for odd in ODD:
            self.assertRaises(InvalidUnit, Run, odd)
            self.assertRaises(InvalidUnit, Run, odd, odd)
            self.assertRaises(InvalidUnit, outcome, odd, most=odd)
            if not isinstance(odd, tuple) or not all(type(number) is int for number in odd) or max([0, *odd]) > 99:
                self.assertRaises(InvalidOperation, Run, unit, odd)
                self.assertRaises(InvalidOperation, outcome, unit, odd, most="x")
        for wrong in ((2 ** 62,), (True,), (-(2 ** 62) - 1,), [1], (1, "2")):
            self.assertRaises(InvalidOperation, Run, unit, wrong)
        Run(unit, (2 ** 62 - 1, -(2 ** 62)))
        used = program("val x = 1", uses={"U": unit.face})
        self.assertRaises(InvalidUnit, Run, used)

    def test_steps_that_cannot_be_done(self):
        run = Run(program("val x = 1"))
        for wrong in (-1, 20001, True, None, "1", 10 ** 70, (), 1.5):
            with self.assertRaises(InvalidNumber) as caught:
                run.go_on(most=wrong)
            self.assertIs(caught.exception.given, wrong)
            self.assertRaises(InvalidNumber, outcome, run.program, most=wrong)
        self.assertEqual((run.go_on(most=0), len(run)), (0, 0))
        self.assertEqual((run.go_on(most=20000), run.go_on(), len(run)), (3, 0, 3))
        self.assertRaises(InvalidOperation, run.step)
        self.assertEqual(len(run), 3)
        for wrong in (-1, True, None, "1", ()):
            self.assertRaises(InvalidNumber, run.undo, many=wrong)
        with self.assertRaises(NothingToUndo) as caught:
            run.undo(many=4)
        self.assertEqual(caught.exception.many, 4)
        self.assertEqual((run.undo(many=0), run.ends, run.undo(many=3), run.ends, run.next), (3, ("done", (("x", "1"),)), 0, None, "declare"))

    def test_equality(self):
        one, two = Run(program("val x = 1"), (1,)), Run(program("val x = 1"), (1,))
        self.assertTrue(one == two)
        one.step()
        self.assertFalse(one == two)
        self.assertTrue(one != two)
        two.step()
        self.assertTrue(one == two)
        self.assertFalse(one == Run(program("val x = 1"), ()).twin())
        for odd in ODD:
            self.assertFalse(one == odd)
        with self.assertRaises(TypeError):
            list(one)

    def test_undo_and_twins(self):
        text = """
        exception E of int val r = ref 0 val a = read () val _ = print (text a) val _ = r := a
        val f = fn n => (exception_ n) end""".replace("(exception_ n)", "(r := !r + n; print (text (!r)); !r)") + """
        val b = f (read ()) val s = ref (r) val _ = !s := 9 val c = (raise E 4) handle E n => n + !r end
        functor F(X : sig end) = struct exception G val g = G end structure A = F(struct end) structure B = F(struct end)
        val d = (case A.g of B.G => 1 | A.G => 2 | _ => 3 end)"""
        run = Run(program(text), (4, 5))
        states = [self.state(run)]
        while not run.is_over():
            run.step()
            states.append(self.state(run))
        self.assertEqual(dict(run.ends[1])["d"], "2")
        rng = random.Random(5)
        for _ in range(60):
            back = rng.randint(0, len(run))
            self.assertEqual(run.undo(many=back), len(states) - 1 - back)
            self.assertEqual(self.state(run), states[len(run)])
            twin = run.twin()
            self.assertEqual(self.state(twin), self.state(run))
            twin.go_on(most=rng.randint(0, 30))
            self.assertEqual(self.state(run), states[len(run)])
            self.assertEqual(self.state(twin), states[len(twin)])
            run.go_on(most=20000)
            self.assertEqual(self.state(run), states[-1])

    def state(self, run):
        return run.next, run.frames, run.output, run.reads, run.ends, len(run), str(run)

    def test_equal_runs_at_each_step(self):
        for seed in range(6):
            unit = program(random_text(random.Random(seed), 2))
            one, two = Run(unit, (1, 2)), Run(unit, (1, 2))
            two.go_on(most=20000)
            seen = []
            while not one.is_over() and len(one) < 3000:
                seen.append(self.state(one)[:4])
                one.step()
            two.undo(many=len(two))
            for state in seen:
                self.assertEqual(self.state(two)[:4], state)
                two.step()

    def test_long_runs(self):
        unit = program("val rec f = fn n => f (n + 1) end val x = (f 0 : int)")
        self.assertEqual(outcome(unit), ("long",))
        self.assertEqual(outcome(program("val x = 1 + 2"), most=6), ("long",))
        self.assertEqual(outcome(program("val x = 1 + 2"), most=7), ("done", (("x", "3"),)))
        run = Run(unit)
        self.assertEqual((run.go_on(most=20000), run.go_on(most=20000), len(run), run.frames < 6), (20000, 20000, 40000, True))
        self.assertEqual(run.undo(many=39999), 1)


if __name__ == "__main__":
    unittest.main()
