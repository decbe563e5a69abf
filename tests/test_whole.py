"""The main guarantee over the whole program, [0.10] to [0.16], and [5.8]."""

import random
import unittest

from letquay.cases.rows import is_met, meets, missing
from letquay.code.making import compiled
from letquay.errors import Refused
from letquay.infer.derivations import is_derivation
from letquay.infer.expressions import typed
from letquay.data.faces import base_face
from letquay.machine.runs import Machine
from letquay.modules.flatten import flattened
from letquay.rules.runs import Run, outcome
from letquay.text.reader import read_expression
from letquay.types.books import Book
from tests.program_tools import Maker, both_runs, program, random_text, type_of
from tests.test_units import unit


def reason_of(call, *args):
    try:
        call(*args)
    except Refused as refused:
        return refused.reason
    return None


def printed(text):
    run = Run(program(text))
    run.go_on(most=20000)
    return run.output


class RunsTest(unittest.TestCase):
    """[0.10], [0.12]."""

    def test_what_cannot_be_typed_is_refused(self):
        for text, word in (("val x = 1 1", "clash"), ("val x = y", "unbound"), ("val x = fn x => x x end", "endless"), ("val x = (fn y => y end) = (fn y => y end)", "unequal")):
            self.assertEqual(reason_of(program, text)[0], word)

    def test_no_run_is_stuck(self):
        """By the rules and by the machine: each value has a text by its type, and both come to the same end."""
        for seed in range(40):
            rng = random.Random(5000 + seed)
            found = program(random_text(rng, rng.choice((2, 3, 4))))
            inputs = tuple(rng.randint(-9, 9) for _ in range(rng.randint(0, 2)))
            run, machine, bound = both_runs(found, inputs)
            self.assertIn(run.ends[0], ("done", "raised"))
            self.assertLessEqual(len(machine), bound)
            self.assertEqual((machine.output, len(inputs) - len(machine.left)), (run.output, run.reads), seed)
            if run.ends[0] == "done":
                self.assertEqual(machine.shown(found.book, found.face), run.ends[1], seed)
            else:
                self.assertEqual(machine.ends, run.ends, seed)

    def test_values_at_each_bound(self):
        for text in ("val x = 4611686018427387903 + 1", "val x = ~4611686018427387904 div ~1", "val x = (~7 div 2, ~7 mod 2, 7 div ~2, 7 mod ~2)",
                     "val x = 4611686018427387903 * 4611686018427387903", "val x = text (~4611686018427387904)"):
            found = program(text)
            run, machine, _ = both_runs(found)
            self.assertEqual(machine.shown(found.book, found.face), run.ends[1])


class MatchesTest(unittest.TestCase):
    """[0.13], [5.8]."""

    def value_of(self, pattern):
        """The value that a pattern without names stands for."""
        if pattern[0] in ("int", "string"):
            return pattern[1]
        if pattern[0] == "tuple":
            return ("tuple", tuple(self.value_of(part) for part in pattern[1]))
        word = "exn" if pattern[1][-1] in ("A", "B", "C", "Div", "Match") else "con"
        return (word, pattern[1] if word == "exn" else pattern[1][-1], None if pattern[2] is None else self.value_of(pattern[2]))

    def closed_value(self, rng, t, depth=3):
        """A text that is a pattern and an expression alike."""
        if t == "int":
            return str(rng.randint(0, 3))
        if t == "string":
            return rng.choice(('"a"', '""', '"ab"', '"q"'))
        if t == "bool":
            return rng.choice(("True", "False"))
        if t == "unit":
            return "()"
        if t == "exn":
            return rng.choice(("A", "(B 1)", "(C 2)", "Div", "(B 3)"))
        if t == "tree":
            return "Leaf" if rng.random() < 0.5 or depth == 0 else (
                f"(Node ({self.closed_value(rng, t, depth - 1)}, {rng.randint(0, 2)}, {self.closed_value(rng, t, depth - 1)}))")
        if t[0] == "pair":
            return f"({self.closed_value(rng, t[1])}, {self.closed_value(rng, t[2])})"
        if t[0] == "list":
            return "[]" if rng.random() < 0.4 or depth == 0 else f"({self.closed_value(rng, t[1])} :: {self.closed_value(rng, t, depth - 1)})"
        return "None" if rng.random() < 0.4 else f"(Some {self.closed_value(rng, t[1])})"

    def test_match_is_raised_for_missing_values_alone(self):
        head = """datatype tree = Leaf | Node of tree * int * tree datatype 'a opt = None | Some of 'a
        exception A exception B of int exception C = B """
        types = ("int", "bool", "tree", "exn", ("list", "bool"), ("pair", "bool", "bool"), ("opt", "bool"), ("pair", ("opt", "int"), "exn"))
        counts = {}
        for seed in range(260):
            rng = random.Random(seed)
            maker = Maker(rng)
            t = rng.choice(types)
            rows = [(maker.pattern(t, 3)[0], rng.random() < 0.2) for _ in range(rng.randint(1, 4))]
            text = " | ".join(f"{pattern}{' when ' + rng.choice(('True', 'False')) if guarded else ''} => {k}" for k, (pattern, guarded) in enumerate(rows))
            value = self.closed_value(rng, t)
            found = program(f"{head} val got = case ({value} : {type_of(t)}) of {text} end")
            place, T, cases = found.notes[-1][1].cases[-1]
            self.assertEqual(len(cases), len(rows))
            told = missing(found.book, base_face().opened(found.face), T, cases)
            run, machine, _ = both_runs(found)
            raised = run.ends == ("raised", "Match")
            self.assertEqual(machine.ends[0], run.ends[0])
            whole = self.value_of(program_pattern(head, value))
            paths = [whole]
            if "exn" in str(whole) and "('B',)" in str(whole) or "('C',)" in str(whole):
                paths = [swap(whole, "B", "C"), swap(whole, "C", "B"), whole]
            if raised:
                self.assertTrue(told, seed)
                self.assertTrue(any(is_met(each, pattern) for each in paths for pattern in told), (seed, value))
            elif run.ends[0] == "done":
                taken = int(dict(run.ends[1])["got"])
                self.assertTrue(any(meets(each, cases[taken][0]) is not None for each in paths), (seed, value, rows))
            counts[raised, bool(told)] = counts.get((raised, bool(told)), 0) + 1
        self.assertNotIn((True, False), counts)
        self.assertGreater(min(counts.values()), 20)

    def test_false_sentences(self):
        """What misses something need not raise Match for it; a row that is not idle need not be taken by a run."""
        found = program("val f = fn 1 => 2 end val x = f 1")
        self.assertEqual(outcome(found)[0], "done")
        _, T, cases = found.notes[0][1].cases[-1]
        self.assertTrue(missing(found.book, base_face().opened(found.face), T, cases))


def swap(value, one, other):
    if isinstance(value, tuple):
        return tuple(swap(part, one, other) for part in value)
    return other if value == one else value


def program_pattern(head, text):
    from letquay.text.reader import read_pattern
    return read_pattern(text)


class ModulesTest(unittest.TestCase):
    """[0.14]."""

    def test_related_structures(self):
        """Two structures whose values are related: no client shows a difference."""
        signature = "sig type t val zero : t val next : t -> t val told : t -> int val same : t * t -> bool end"
        one = "struct type t = int val zero = 0 val next = fn n => n + 1 end val told = fn n => n end val same = fn (a, b) => a = b end end"
        other = """struct type t = unit list val zero = [] val next = fn l => () :: l end
            val rec told = fn [] => 0 | _ :: l => 1 + told l end val same = fn (a, b) => told a = told b end end"""
        rng = random.Random(1)
        for _ in range(20):
            steps = "S.zero"
            for _ in range(rng.randint(0, 6)):
                steps = f"(S.next {steps})"
            client = f"val a = {steps} val b = S.told a val c = S.same (a, S.next S.zero) val d = (a, b :: [], c) val _ = print (text (S.told (S.next a)))"
            found = []
            for body in (one, other):
                whole = program(f"structure S = {body} :> {signature} {client}")
                run, machine, _ = both_runs(whole)
                self.assertEqual(machine.shown(whole.book, whole.face), run.ends[1])
                found.append((run.ends, run.output, whole.notes[-5:] and [str(note) for place, note in whole.notes[-5:]]))
            self.assertEqual(found[0], found[1])

    def test_applications_have_new_exceptions(self):
        text = """functor F(X : sig end) = struct exception E val raised = E val is = fn E => True | _ => False end end
        structure A = F(struct end) structure B = F(struct end) val x = (A.is A.raised, A.is B.raised, B.is B.raised)"""
        found = program(text)
        run, machine, _ = both_runs(found)
        self.assertEqual(dict(run.ends[1])["x"], "(True, False, True)")
        self.assertEqual(machine.shown(found.book, found.face), run.ends[1])

    def test_an_application_runs_as_its_text(self):
        body = "struct val r = ref X.a val f = fn n => (r := !r + n; !r) end val first = f 1 end"
        one = program(f"functor F(X : sig val a : int end) = {body} structure A = F(struct val a = 5 end) val x = (A.first, A.f 2)")
        other = program(f"structure A = struct structure X = struct val a = 5 end structure Y = {body} end val x = (A.Y.first, A.Y.f 2)")
        self.assertEqual(dict(outcome(one)[1])["x"], dict(outcome(other)[1])["x"])


class FalseTest(unittest.TestCase):
    """[0.16]: none of this is true."""

    def test_let_is_not_putting_in(self):
        self.assertEqual(printed('val x = let y = (print "a"; 1) in y + y end'), ("a",))
        self.assertEqual(printed('val x = (print "a"; 1) + (print "a"; 1)'), ("a", "a"))
        self.assertEqual(reason_of(program, "val x = let f = (fn y => y end) (fn z => z end) in (f 1, f True) end")[0], "clash")
        program("val x = ((fn y => y end) (fn z => z end) 1, (fn y => y end) (fn z => z end) True)")

    def test_not_all_variables_can_be_generalized(self):
        self.assertEqual(reason_of(program, "val r = ref []"), ("open", (0, 1), "r"))
        self.assertEqual(str(typed(Book(), base_face(), read_expression("ref []"))), "'a list ref")

    def test_a_match_over_exceptions_is_not_complete(self):
        found = program("exception A exception B of int val f = fn A => 1 | B _ => 2 | Match => 3 | Div => 4 | Size => 5 | End => 6 end")
        _, T, cases = found.notes[0][1].cases[-1]
        self.assertEqual(missing(found.book, base_face().opened(found.face), T, cases), (("but exceptions", (("A",), ("B",), ("Div",), ("End",), ("Match",), ("Size",))),))
        text = "structure S = struct exception C val c = C end :> sig val c : exn end "
        self.assertEqual(outcome(program("exception A val f = fn A => 1 | Match => 3 | Div => 4 | Size => 5 | End => 6 end " + text + "val x = f S.c")), ("raised", "Match"))

    def test_two_applications_have_unlike_types(self):
        text = "functor F(X : sig end) = struct datatype t = A val x = A end structure B = F(struct end) structure C = F(struct end) "
        self.assertEqual(reason_of(program, text + "val y = B.x = C.x")[0], "clash")
        program(text + "val y = B.x = B.A")


class UnitsTest(unittest.TestCase):
    """[0.11] and [0.15] are looked at in the tests of typing and of links; here as one."""

    def test_all_ways_of_running_agree(self):
        from letquay.modules.programs import typed_unit
        from letquay.units.links import compiled_all, linked, whole
        units = (
            unit("Main", ("Queue", "Log"), "open Queue val q = add (3, add (2, add (1, empty))) val (a, q) = first q val _ = Log.say (text a) val n = size q"),
            unit("Queue", (), """type 'a queue = 'a list * 'a list exception Empty val empty = ([], [])
                val add = fn (x, (f, b)) => (f, x :: b) end
                val rec turn = fn (f, []) => f | (f, x :: b) => turn (x :: f, b) end
                val rec first = fn (x :: f, b) => (x, (f, b)) | ([], []) => raise Empty | ([], b) => first (turn ([], b), []) end
                val rec long = fn [] => 0 | _ :: l => 1 + long l end
                val size = fn (f, b) => long f + long b end""").with_signature(read_sig(
                    "sig type 'a queue exception Empty val empty : 'a queue val add : 'a * 'a queue -> 'a queue val first : 'a queue -> 'a * 'a queue val size : 'a queue -> int end")),
            unit("Log", (), "val many = ref 0 val say = fn s => (many := !many + 1; print (text (!many) ^ \" \" ^ s)) end"))
        parts = compiled_all(units)
        machine = Machine(linked(parts))
        machine.go_on(most=100000)
        one = typed_unit(whole(units))
        run, other, _ = both_runs(one)
        self.assertEqual((machine.ends, machine.output, run.output, other.output), (("done",), ("1 1",), ("1 1",), ("1 1",)))
        shown = dict(run.ends[1])
        names = [part.unit.name for part in parts]
        last = parts[-1]
        self.assertEqual(names, ["Log", "Queue", "Main"])
        self.assertEqual({f"Main.{name}": text for name, text in machine.shown(last.program.book, last.program.face)},
                         {name: text for name, text in shown.items() if name.startswith("Main.")})
        self.assertEqual(shown["Main.n"], "2")

    def test_told_types_are_right(self):
        for text in ("fn x => (x, x) end", "let rec f = fn [] => [] | x :: l => x :: f l end in f end", "fn (x, y) when x = y => x | (_, y) => y end"):
            tree = read_expression(text)
            found = typed(Book(), base_face(), tree)
            self.assertTrue(is_derivation(Book(), base_face(), tree, found.derivation))

    def test_core_of_a_unit_is_compiled_soundly(self):
        found = program("val x = 1")
        self.assertEqual(str(compiled(flattened(found))), "code of 1 blocks, 5 instructions")


def read_sig(text):
    from letquay.text.reader import read_signature
    return read_signature(text)


if __name__ == "__main__":
    unittest.main()
