"""Links: promises [11.4] to [11.7], [0.15], part 11b."""

import itertools
import random
import unittest

from letquay.errors import InvalidOperation, InvalidUnit, Refused, TooMany
from letquay.machine.runs import Machine
from letquay.modules.programs import typed_unit
from letquay.rules.runs import Run
from letquay.text.reader import read_signature, read_unit
from letquay.units.links import anew, compiled_all, linked, order_of, updated, whole
from letquay.units.units import Unit, compiled_unit
from tests.odd import ODD
from tests.structure_maker import Shape, StructureMaker
from tests.test_units import CELL, reason_of, unit

USE = unit("Use", ("Cell",), "val two = case Cell.B 1 of Cell.A => 0 | Cell.B n => n + Cell.one end")


def empty(name, *uses):
    return Unit(name, uses, ())


class OrderTest(unittest.TestCase):
    def test_example(self):
        parts = compiled_all((USE, CELL))
        self.assertEqual([parts[0].face.origins, parts[1].face.face.schemes["two"].body, [name for name, code in linked(parts)], str(USE)], [
            (("Cell", 0),), ("made", 1, ()), ["Cell", "Use"], "unit Use: 1 declarations, 1 uses"])

    def test_the_order(self):
        units = (empty("D"), empty("A", "C"), empty("C", "D"), empty("B"), empty("E", "A", "B"), empty("Aa", "D"))
        for handed in itertools.permutations(units):
            self.assertEqual(order_of(handed), ("B", "D", "Aa", "C", "A", "E"))
        self.assertEqual(order_of((empty("A"),)), ("A",))

    def test_refusals(self):
        for units, wanted in (
                ((empty("A"), empty("A")), ("twice", "A")), ((empty("A", "B"),), ("lacks", "A", "B")), ((empty("A", "B", "C"), empty("C")), ("lacks", "A", "B")),
                ((empty("A", "B"), empty("B", "A")), ("ring", "A")), ((empty("B", "A"), empty("A", "B")), ("ring", "B")),
                ((empty("Z", "A"), empty("A", "B"), empty("B", "C"), empty("C", "A")), ("ring", "A")), ((empty("D", "A"), empty("A", "B"), empty("B", "A")), ("ring", "A")),
                ((empty("A"), empty("A", "X")), ("twice", "A")), ((empty("B", "X"), empty("A"), empty("A")), ("lacks", "B", "X")),
                ((empty("A", "B", "X"), empty("B", "A")), ("lacks", "A", "X")), ((empty("C"), empty("A", "B"), empty("B", "A"), empty("C")), ("ring", "A"))):
            for call in (order_of, whole, compiled_all, lambda us: anew((), us), lambda us: updated((), us)):
                self.assertEqual(reason_of(call, units), wanted, units)

    def test_wrong_arguments(self):
        part = compiled_unit(CELL, {})
        nine = tuple(empty(name) for name in "ABCDEFGHI")
        for wrong in (*ODD, (CELL, None), [CELL], (CELL, "X"), nine, (part,)):
            for call in (order_of, whole, compiled_all, lambda us: anew((), us), lambda us: updated((part,), us)):
                self.assertRaises(InvalidOperation, call, wrong)
        self.assertEqual(len(order_of(nine[:8])), 8)
        for wrong in (*ODD, (part, None), [part], (CELL,), (part,) * 9):
            self.assertRaises(InvalidOperation, linked, wrong)
            if wrong != ():
                self.assertRaises(InvalidOperation, anew, wrong, (empty("A", "A1"[:1] + "b"),))
                self.assertRaises(InvalidOperation, updated, wrong, None)
        for call in (anew, updated):
            self.assertRaises(InvalidOperation, call, (part, part), (CELL,))
            self.assertEqual(reason_of(call, (), (empty("A", "B"),)), ("lacks", "A", "B"))

    def test_stale(self):
        parts = compiled_all((USE, CELL))
        new = compiled_unit(CELL.with_declarations(read_unit("datatype t = A | B of int val one = 1 val more = 1")), {})
        same = compiled_unit(CELL.with_declarations(read_unit("datatype t = A | B of int val one = 5")), {})
        self.assertEqual(reason_of(linked, (parts[1], new)), ("stale", "Use", "Cell"))
        self.assertEqual([name for name, _ in linked((parts[1], same))], ["Cell", "Use"])
        self.assertEqual(reason_of(linked, (parts[1],)), ("lacks", "Use", "Cell"))
        self.assertEqual(reason_of(linked, (parts[0], parts[0])), ("twice", "Cell"))
        self.assertEqual(reason_of(linked, (parts[1], new, new)), ("stale", "Use", "Cell"))

    def test_refused_units(self):
        bad = unit("Bad", (), "val x = y")
        self.assertEqual(reason_of(compiled_all, (USE, CELL, bad)), ("Bad", ("unbound", (0, 2), ("y",))))
        self.assertEqual(reason_of(compiled_all, (unit("A", (), "val x = 1 1"), bad))[0], "A")
        self.assertEqual(reason_of(updated, compiled_all((CELL,)), (bad, CELL))[0], "Bad")
        great = unit("A", (), "".join(f"val {x} = ({y}, {y}, {y}) " for x, y in zip("abcdefgh", ("1", *"abcdefgh"))))
        for call in (compiled_all, lambda us: anew((), us), lambda us: updated((), us)):
            self.assertRaises(TooMany, call, (bad, great))


class WholeTest(unittest.TestCase):
    """[11.6], [0.15]."""

    def test_the_whole(self):
        sealed = CELL.with_signature(read_signature("sig datatype t = A | B of int val one : int end"))
        self.assertEqual(whole((USE, sealed)), (
            ("structure", "Cell", ("seal", ("struct", CELL.declarations), sealed.signature)), ("structure", "Use", ("struct", USE.declarations))))
        for text in ("signature S = sig end", "functor F(X : sig end) = X"):
            self.assertRaises(InvalidOperation, whole, (unit("A", (), text), CELL))
        half = "val x = (" + ", ".join(["1"] * 1495) + ")"
        self.assertEqual(len(whole((unit("A", (), half), unit("B", (), half)))), 2)
        self.assertRaises(InvalidUnit, whole, (unit("A", (), half), unit("B", (), half), CELL))
        deep = "val x = " + "(" * 57 + "1" + ", 1)" * 57
        self.assertRaises(InvalidUnit, whole, (unit("A", (), "structure S = struct structure T = struct end end"), unit("B", (), deep)))

    def check(self, units, inputs=()):
        parts = compiled_all(units)
        run = Run(typed_unit(whole(units)), inputs)
        run.go_on(most=20000)
        machine = Machine(linked(parts), inputs)
        machine.go_on(most=100000)
        bound = (60 + sum(each.nodes for each in units)) * len(run) + 1000
        self.assertLessEqual(len(machine), bound)
        self.assertEqual((machine.output, len(inputs) - len(machine.left)), (run.output, run.reads))
        if run.ends[0] == "raised":
            self.assertEqual(machine.ends, run.ends)
            return run.ends
        self.assertEqual(machine.ends, ("done",))
        last = parts[-1]
        shown = machine.shown(last.program.book, last.program.face)
        wanted = [(name.partition(".")[2], text) for name, text in run.ends[1] if name.startswith(last.unit.name + ".")]
        self.assertEqual(list(shown), wanted)
        return run.ends

    def test_units_run_as_the_whole(self):
        stack = unit("Stack", (), """type 'a stack = 'a list val empty = [] exception Empty val push = fn (x, s) => x :: s end
            val pop = fn [] => raise Empty | x :: s => (x, s) end val _ = print "stack" """,
                     "sig type 'a stack val empty : 'a stack exception Empty val push : 'a * 'a stack -> 'a stack val pop : 'a stack -> 'a * 'a stack end")
        count = unit("Count", (), "val r = ref 0 val tick = fn () => (r := !r + 1; !r) end val first = read () handle End => ~1 end")
        main = unit("Zmain", ("Stack", "Count"), """
            val a = Count.tick () open Stack val s = push (Count.tick (), push (Count.first, empty))
            val (b, s) = pop s val (c, s) = pop s val d = (pop s; 1) handle Empty => 7 end
            val _ = print (text (a + b + c + d))""")
        self.assertEqual(dict(self.check((main, stack, count), (40,))[1])["Zmain.d"], "7")
        self.check((main, count, stack))
        self.assertEqual(self.check((main.with_declarations(read_unit("val (x, _) = (Stack.pop Stack.empty : int * int Stack.stack)")), stack, count)), ("raised", "Empty"))

    def test_exceptions_of_units(self):
        one = unit("A", (), "exception E of int exception F")
        two = unit("B", ("A",), "exception E of int exception G = A.E val f = fn A.E n => n | E n => n + 100 | A.F => 7 | _ => 0 end val raised = G 4")
        three = unit("C", ("B", "A"), "val x = (B.f B.raised, B.f (A.E 1), B.f (B.E 1), B.f A.F, (raise B.raised) handle A.E n => n end)")
        self.assertEqual(dict(self.check((three, two, one))[1])["C.x"], "(4, 1, 101, 7, 4)")

    def test_random_units(self):
        rng = random.Random(6)
        for _ in range(25):
            names = ["A", "B", "C", "D"]
            units = []
            for k, name in enumerate(names):
                uses = tuple(rng.sample(names[:k], rng.randint(0, k)))
                terms = [str(rng.randint(0, 9))] + [f"{used}.{rng.choice(('x', 'y'))}" for used in uses] + [f"!({used}.r)" for used in uses]
                rng.shuffle(terms)
                text = f"val r = ref {rng.randint(0, 9)} val x = {' + '.join(terms)} val y = x {rng.choice(('*', '-', 'div', 'mod'))} {rng.randint(0, 3)} "
                text += " ".join(f"val _ = {used}.r := x" for used in uses) + f" val _ = print (text y) datatype t = T{name} of int"
                text += "".join(f" val k{used.lower()} = {used}.T{used} x" for used in uses)
                units.append(unit(name, uses, text))
            rng.shuffle(units)
            self.check(tuple(units))


class StructuresTest(unittest.TestCase):
    """[11.6] for units of structures, which open and name those that they use."""

    def test_random_structures(self):
        many = 0
        for seed in range(60):
            rng = random.Random(seed)
            shapes, units = {}, []
            for k, name in enumerate(("Ua", "Ub", "Uc", "Ud")):
                uses = rng.sample(sorted(shapes), rng.randint(0, k))
                maker = StructureMaker(rng)
                text, shape = maker.declarations(Shape((), (), {used: shapes[used] for used in uses}), 1)
                signature = None
                if rng.random() < 0.5:
                    signature, shape = maker.signature(shape)
                units.append(unit(name, tuple(uses), text, signature))
                shapes[name] = shape
            rng.shuffle(units)
            try:
                parts = compiled_all(tuple(units))
            except Refused:
                continue
            many += 1
            run = Run(typed_unit(whole(tuple(units))))
            run.go_on(most=20000)
            machine = Machine(linked(parts))
            machine.go_on(most=100000)
            self.assertEqual((machine.ends, run.ends[0]), (("done",), "done"))
            last = parts[-1]
            wanted = [(name.partition(".")[2], text) for name, text in run.ends[1] if name.startswith(last.unit.name + ".")]
            self.assertEqual(list(machine.shown(last.program.book, last.program.face)), wanted, seed)
        self.assertGreater(many, 40)


class AnewTest(unittest.TestCase):
    """[11.7]."""

    def setUp(self):
        self.cell = CELL
        self.mid = unit("Mid", ("Cell",), "val m = Cell.one + 1 val t = Cell.A")
        self.top = unit("Top", ("Mid",), "val z = Mid.m")
        self.side = unit("Side", ("Cell", "Mid"), "val q = Cell.one")
        self.units = (self.top, self.side, self.mid, self.cell)
        self.parts = compiled_all(self.units)

    def changed(self, new, wanted):
        units = tuple(new if each.name == new.name else each for each in self.units)
        self.assertEqual(anew(self.parts, units), wanted)
        found = updated(self.parts, units)
        self.assertEqual([part.unit.name for part in found], list(order_of(units)))
        fresh = compiled_all(units)
        self.assertEqual(found, fresh)
        old = {part.unit.name: part for part in self.parts}
        for part, other in zip(found, fresh):
            self.assertEqual(part.code, other.code)
            if part.unit.name not in wanted:
                self.assertIs(part, old[part.unit.name])
                self.assertEqual(part.code, old[part.unit.name].code)
        self.assertEqual(anew(found, units), ())

    def test_changes(self):
        self.assertEqual(anew(self.parts, self.units), ())
        self.assertEqual(anew((), self.units), ("Cell", "Mid", "Side", "Top"))
        self.changed(self.cell.with_declarations(read_unit("datatype t = A | B of int val one = 7")), ("Cell",))
        self.changed(self.cell.with_declarations(read_unit("datatype t = A | B of int val one = 7 val two = 1")), ("Cell", "Mid", "Side"))
        self.changed(self.cell.with_declarations(read_unit("datatype t = A | B of int | C val one = 7")), ("Cell", "Mid", "Side", "Top"))
        self.changed(self.cell.with_signature(read_signature("sig datatype t = A | B of int val one : int end")), ("Cell",))
        self.changed(self.mid.with_declarations(read_unit("val m = 5 val t = Cell.A")), ("Mid",))
        self.changed(self.mid.with_declarations(read_unit("val m = 5")), ("Mid", "Side", "Top"))
        self.changed(self.top.with_declarations(read_unit("val z = 1")), ("Top",))
        self.changed(Unit("Side", ("Mid", "Cell"), self.side.declarations), ("Side",))
        self.changed(Unit("Side", ("Cell",), self.side.declarations), ("Side",))

    def test_the_same_text_with_another_face(self):
        mid = unit("Mid", ("Cell",), "val m = Cell.one")
        top = unit("Top", ("Mid",), "val z = Mid.m")
        parts = compiled_all((CELL, mid, top))
        new = CELL.with_declarations(read_unit("val one = \"a\""))
        self.assertEqual(anew(parts, (new, mid, top)), ("Cell", "Mid", "Top"))

    def test_what_counts_for_nothing(self):
        self.assertEqual(anew(self.parts, (self.cell,)), ())
        self.assertEqual([part.unit.name for part in updated(self.parts, (self.cell, empty("New")))], ["Cell", "New"])
        with self.assertRaises(Refused):
            anew(self.parts, (self.top,))


if __name__ == "__main__":
    unittest.main()
