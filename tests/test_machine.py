"""The machine: promises [10.1] to [10.6], part 10a."""

import random
import unittest

from letquay.code.blocks import Code
from letquay.code.making import compiled
from letquay.data.faces import Face, base_face
from letquay.errors import InvalidBook, InvalidCode, InvalidFace, InvalidNumber, InvalidOperation, NothingToUndo
from letquay.machine.runs import Machine
from letquay.modules.flatten import flattened
from letquay.types.books import Book
from tests.odd import ODD
from tests.program_tools import both_runs, program, random_text
from tests.test_code import IDLE

X, Y, E = ("value", "x"), ("value", "y"), ("exception", "E")
ONE, TWO, END = ("int", 1), ("int", 2), ("return",)
DIV = ("reserved", "Div")


def machine_of(*rows, slots=0, more=(), inputs=()):
    return Machine((("U", Code(((0, slots, rows), *more))),), inputs)


def run_of(*rows, **more):
    machine = machine_of(*rows, **more)
    machine.go_on()
    return machine


def state(machine):
    return machine.frames, machine.heap, machine.units, machine.output, machine.left, machine.ends, len(machine), str(machine)


class InstructionsTest(unittest.TestCase):
    """[10.1] to [10.4]."""

    def step_behind(self, *rows, **more):
        """The operands, the heap and the ends behind the last of some instructions, to which others are added."""
        machine = machine_of(*rows, ("jump", len(rows)), **more)
        for _ in rows:
            machine.step()
        return machine.frames[0][3] if machine.frames else None, machine.heap, machine.ends

    def test_values_and_cells(self):
        one, two = ("int", 1), ("int", 2)
        for rows, operands, heap in (
                ((ONE,), (one,), {}), ((("string", "a"),), (("string", "a"),), {}), ((("tuple", 0),), (("unit",),), {}),
                ((ONE, TWO, ("tuple", 2)), (("at", 0),), {0: ("tuple", (one, two))}),
                ((ONE, TWO, ("tuple", 2), ("part", 1)), (two,), {0: ("tuple", (one, two))}),
                ((("con", "C", False),), (("word", "C"),), {}), ((ONE, ("con", "C", True)), (("at", 0),), {0: ("con", "C", one)}),
                ((ONE, ("con", "C", True), ("carried",)), (one,), {0: ("con", "C", one)}),
                ((("table", ()),), (("at", 0),), {0: ("table", (), ())}),
                ((ONE, TWO, ("table", (E, X))), (("at", 0),), {0: ("table", (E, X), (one, two))}),
                ((ONE, TWO, ("table", (E, X)), ("field", X)), (two,), {0: ("table", (E, X), (one, two))}),
                ((("exception", "A"), ("exception", "A")), (("exn", 4), ("exn", 5)), {}),
                ((("reserved", "Match"), ("reserved", "End")), (("exn", 0), ("exn", 3)), {}),
                ((DIV, ("packet", False)), (("at", 0),), {0: ("packet", 1, None)}),
                ((DIV, ONE, ("packet", True)), (("at", 0),), {0: ("packet", 1, one)}),
                ((DIV, ONE, ("packet", True), ("carried",)), (one,), {0: ("packet", 1, one)}),
                ((ONE, ("op", "ref")), (("at", 0),), {0: ("ref", one)}), ((ONE, ("op", "ref"), ("op", "!")), (one,), {0: ("ref", one)}),
                ((ONE, ("op", "ref"), TWO, ("op", ":=")), (("unit",),), {0: ("ref", two)}),
                ((ONE, TWO, ("op", "-")), (("int", -1),), {}), ((ONE, TWO, ("op", "<")), (("word", "True"),), {}),
                ((("string", "a"), ("string", "b"), ("op", "^")), (("string", "ab"),), {}), ((("int", -7), ("op", "text")), (("string", "~7"),), {}),
                ((("string", "a"), ("op", "print")), (("unit",),), {}), ((("tuple", 0), ("op", "read")), (("int", 9),), {}),
                ((ONE, ("drop",), TWO), (two,), {}), ((ONE, TWO, ("set", 0), ("slot", 0), ("slot", 0)), (one, two, two), {}),
                ((ONE, TWO, ("closure", 1, 2)), (("at", 0),), {0: ("closure", "U", 1, (one, two))}),
                ((ONE, TWO, ("group", ((2, 1), (2, 1)))), (("at", 0), ("at", 1)), {
                    0: ("closure", "U", 2, (one, ("at", 0), ("at", 1))), 1: ("closure", "U", 2, (two, ("at", 0), ("at", 1)))})):
            found = self.step_behind(*rows, slots=1, inputs=(9,), more=((2, 1, (ONE, END)), (3, 1, (ONE, END))))
            self.assertEqual(found, (operands, heap, None), rows)

    def test_jumps(self):
        con, packet = (ONE, ("con", "C", True)), (DIV, ("packet", False))
        for rows, jumps in (
                ((("jump",),), True), ((("con", "True", False), ("unless",)), False), ((("con", "False", False), ("unless",)), True),
                ((ONE, ("differs", "int", 1)), False), ((ONE, ("differs", "int", 2)), True),
                ((("string", "a"), ("differs", "string", "a")), False), ((("string", "a"), ("differs", "string", "b")), True),
                ((("con", "C", False), ("differs", "con", "C")), False), ((("con", "C", False), ("differs", "con", "D")), True),
                ((*con, ("differs", "con", "C")), False), ((*con, ("differs", "con", "D")), True),
                ((*packet, DIV, ("strange",)), False), ((*packet, ("reserved", "End"), ("strange",)), True)):
            target = len(rows) + 2
            machine = run_of(*rows[:-1], (*rows[-1], target), ONE, END, TWO, END)
            self.assertEqual((machine.ends, machine.units), (("done",), {"U": ("int", 2 if jumps else 1)}), rows)
            machine.undo(many=2)
            self.assertEqual(machine.frames, (("U", 0, target if jumps else len(rows), (), (), (), ()),))

    def test_calls_and_returns(self):
        machine = machine_of(ONE, ("closure", 1, 1), TWO, ("call",), END, more=((1, 3, (("slot", 0), ("free", 0), ("op", "+"), END)),))
        self.assertEqual([machine.step() for _ in range(4)], [("U", 0, 0), ("U", 0, 1), ("U", 0, 2), ("U", 0, 3)])
        self.assertEqual(machine.frames, (("U", 0, 4, (), (), (), ()), ("U", 1, 0, (), (("int", 2), None, None), (("int", 1),), ())))
        machine.go_on(most=4)
        self.assertEqual((machine.frames, machine.ends), ((("U", 0, 4, (("int", 3),), (), (), ()),), None))
        self.assertEqual((machine.step(), machine.frames, machine.ends, machine.units), (("U", 0, 4), (), ("done",), {"U": ("int", 3)}))
        machine = machine_of(("closure", 1, 0), ONE, ("call",), END, more=((0, 1, (("closure", 2, 0), ("slot", 0), ("tail",))), (0, 1, (("slot", 0), END))))
        depths = []
        while machine.ends is None:
            depths.append(len(machine.frames))
            machine.step()
        self.assertEqual(depths, [1, 1, 1, 2, 2, 2, 2, 2, 1])

    def test_handlers(self):
        machine = machine_of(
            TWO, ("handle", 9), ("handle", 8), ONE, DIV, ("packet", False), ("raise",), END, ("raise",), ("tuple", 2), END)
        machine.go_on(most=6)
        self.assertEqual(machine.frames[0][6], ((1, 9), (1, 8)))
        machine.step()
        self.assertEqual((machine.frames[0][2:4], machine.frames[0][6]), ((8, (("int", 2), ("at", 0))), ((1, 9),)))
        machine.step()
        self.assertEqual((machine.frames[0][2:4], machine.frames[0][6]), ((9, (("int", 2), ("at", 0))), ()))
        machine = machine_of(("handle", 3), ("unhandle",), ("jump", 5), ("drop",), ("jump", 5), ("reserved", "End"), ("packet", False), ("raise",))
        machine.step()
        machine.step()
        self.assertEqual(machine.frames[0][6], ())
        machine.go_on()
        self.assertEqual((machine.ends, machine.frames), (("raised", "End"), ()))

    def test_a_packet_ends_newer_frames(self):
        body = (0, 1, (("slot", 0), ("int", 0), ("op", "div"), END))
        machine = machine_of(("handle", 6), ("closure", 1, 0), ONE, ("call",), ("unhandle",), END, END, more=(
            (0, 1, (ONE, ("closure", 2, 0), ("slot", 0), ("call",), ("op", "+"), END)), body))
        most = 0
        while machine.ends is None:
            most = max(most, len(machine.frames))
            machine.step()
        self.assertEqual((most, machine.ends, machine.units["U"], machine.heap[2]), (3, ("done",), ("at", 2), ("packet", 1, None)))

    def test_operations_that_raise(self):
        for rows, name in (((ONE, ("int", 0), ("op", "div")), "Div"), ((ONE, ("int", 0), ("op", "mod")), "Div"), ((("tuple", 0), ("op", "read")), "End"),
                           ((("string", "a" * 10000), ("string", "b"), ("op", "^")), "Size")):
            machine = run_of(*rows, END)
            number = ("Match", "Div", "Size", "End").index(name)
            self.assertEqual((machine.ends, machine.heap, machine.frames), (("raised", name), {0: ("packet", number, None)}, ()))

    def test_what_stops(self):
        unit, word, tup = ("tuple", 0), ("con", "C", False), (ONE, ONE, ("tuple", 2))
        con, ref, table, fn, packet = (ONE, ("con", "C", True)), (ONE, ("op", "ref")), (ONE, ("table", (X,))), (("closure", 1, 0),), (DIV, ("packet", False))
        text = ("string", "a")
        for rows in (
                (ONE, ("part", 0)), (unit, ("part", 0)), (*tup, ("part", 2)), (*con, ("part", 0)), (*table, ("part", 0)),
                (ONE, ("carried",)), (word, ("carried",)), (*tup, ("carried",)), (*packet, ("carried",)), (*ref, ("carried",)),
                (ONE, ("field", X)), (*table, ("field", Y)), (*tup, ("field", X)), (unit, ("field", X)),
                (ONE, ("unless", 0)), (word, ("unless", 0)), (unit, ("unless", 0)), (*con, ("unless", 0)),
                (ONE, ("differs", "string", "a", 0)), (text, ("differs", "int", 1, 0)), (unit, ("differs", "int", 1, 0)), (ONE, ("differs", "con", "C", 0)),
                (*tup, ("differs", "con", "C", 0)), (*packet, ("differs", "con", "C", 0)), (DIV, ("differs", "con", "C", 0)), (unit, ("differs", "con", "C", 0)),
                (DIV, DIV, ("strange", 0)), (*packet, ONE, ("strange", 0)), (ONE, DIV, ("strange", 0)), (DIV, *packet, ("strange", 0)), (*con, DIV, ("strange", 0)),
                (ONE, ("packet", False)), (ONE, ONE, ("packet", True)), (*packet, ("packet", False)), (word, DIV, ("packet", True)),
                (ONE, ("raise",)), (DIV, ("raise",)), (*con, ("raise",)), (ONE, ONE, ("call",)), (*con, ONE, ("call",)), (ONE, *fn, ("call",)), (ONE, ONE, ("tail",)),
                (ONE, text, ("op", "+")), (text, ONE, ("op", "<")), (ONE, ONE, ("op", "^")), (text, ("op", "text")), (ONE, ("op", "print")),
                (ONE, ("op", "read")), (*tup, ("op", "read")), (ONE, ("op", "!")), (*tup, ("op", "!")), (ONE, ONE, ("op", ":=")), (unit, ONE, ("op", "*")),
                (*fn, *fn, ("op", "=")), (*table, *table, ("op", "=")), (DIV, DIV, ("op", "=")), (*packet, *packet, ("op", "=")), (ONE, text, ("op", "=")),
                (unit, *tup, ("op", "=")), (*tup, ONE, ONE, ONE, ("tuple", 3), ("op", "=")), (unit, word, ("op", "=")), (*con, *ref, ("op", "=")), (*tup, *con, ("op", "="))):
            behind = {"tail": (), "raise": (), "unless": (("jump", 0),), "differs": (("jump", 0),), "strange": (("jump", 0),)}.get(rows[-1][0], (END,))
            machine = machine_of(*rows, *behind, more=((0, 1, (ONE, END)),))
            machine.go_on(most=len(rows) - 1)
            before = state(machine)
            self.assertIsNone(machine.ends, rows)
            machine.step()
            after = state(machine)
            self.assertEqual((machine.ends, machine.frames, len(machine)), (("stopped",), (), len(rows)), rows)
            self.assertEqual(after[1:5], before[1:5], rows)
            self.assertRaises(InvalidOperation, machine.step)
            machine.undo()
            self.assertEqual(state(machine), before)

    def test_equality(self):
        def equal(*rows):
            machine = run_of(*rows, ("op", "="), END, slots=2, more=((0, 1, (ONE, END)),))
            return machine.ends if machine.ends != ("done",) else machine.units["U"][1]
        pair, other = (ONE, TWO, ("tuple", 2)), (ONE, ("int", 3), ("tuple", 2))
        con, word = (ONE, ("con", "C", True)), ("con", "C", False)
        self.assertEqual([equal(ONE, ONE), equal(ONE, TWO), equal(*pair, *pair), equal(*pair, *other)], ["True", "False", "True", "False"])
        self.assertEqual([equal(word, word), equal(word, ("con", "D", False)), equal(*con, *con), equal(*con, ONE, ("con", "D", True))], ["True", "False", "True", "False"])
        self.assertEqual([equal(*con, ("con", "D", False)), equal(("tuple", 0), ("tuple", 0)), equal(("string", "a"), ("string", "b"))], ["False", "True", "False"])
        self.assertEqual([equal(ONE, ("op", "ref"), ONE, ("op", "ref")), equal(ONE, ("op", "ref"), ("set", 0), ("slot", 0), ("slot", 0))], ["False", "True"])
        fn = ("closure", 1, 0)
        self.assertEqual([equal(ONE, fn, ("tuple", 2), TWO, fn, ("tuple", 2)), equal(ONE, fn, ("tuple", 2), ONE, fn, ("tuple", 2))], ["False", ("stopped",)])
        self.assertEqual(equal(ONE, fn, ("tuple", 2), ("set", 0), ("slot", 0), ("slot", 0)), ("stopped",))
        self.assertEqual(equal(fn, ("op", "ref"), ("set", 0), ("slot", 0), ("slot", 0)), "True")

    def test_equality_of_what_is_shared(self):
        """No pair of addresses is looked at twice, so this ends soon."""
        rows = [ONE, ("set", 0), ONE, ("set", 1)]
        for _ in range(60):
            for slot in (0, 1):
                rows.extend([("slot", slot), ("slot", slot), ("tuple", 2), ("set", slot)])
        machine = run_of(*rows, ("slot", 0), ("slot", 1), ("op", "="), END, slots=2)
        self.assertEqual((machine.ends, machine.units), (("done",), {"U": ("word", "True")}))


class UnitsTest(unittest.TestCase):
    def test_units_one_behind_the_other(self):
        first = Code(((0, 0, (("exception", "A"), ONE, ("table", (E, X)), END)),))
        second = Code(((0, 0, (("exception", "B"), ("global", "U"), ("field", X), ("tuple", 2), END)),), ("U",))
        machine = Machine((("U", first), ("V", second)))
        machine.go_on(most=3)
        self.assertEqual(machine.step(), ("U", 0, 3))
        self.assertEqual((machine.frames, machine.units, machine.ends), ((("V", 0, 0, (), (), (), ()),), {"U": ("at", 0)}, None))
        machine.go_on()
        self.assertEqual((machine.ends, machine.units), (("done",), {"U": ("at", 0), "V": ("at", 1)}))
        self.assertEqual(machine.heap[1], ("tuple", (("exn", 5), ("int", 1))))
        self.assertEqual(machine.undo(many=5), 4)
        self.assertEqual(machine.undo(many=1), 3)
        self.assertEqual((machine.units, machine.frames[0][0]), ({}, "U"))

    def test_a_code_that_returns_no_table(self):
        machine = Machine((("B", IDLE), ("A", Code(((0, 0, (("global", "B"), END)),), ("B",)))))
        machine.go_on()
        self.assertEqual((machine.units, list(machine.units)), ({"A": ("int", 5), "B": ("int", 5)}, ["A", "B"]))
        self.assertEqual(machine.shown(Book(), Face()), ())
        self.assertRaises(InvalidOperation, machine.shown, Book(), program("val x = 1").face)

    def test_a_closure_of_another_unit(self):
        first = Code(((0, 0, (("closure", 1, 0), END)), (0, 1, (("slot", 0), ("int", 5), ("op", "*"), END))))
        machine = Machine((("U", first), ("V", Code(((0, 0, (("global", "U"), TWO, ("tail",))),), ("U",)))))
        machine.go_on()
        self.assertEqual(machine.units["V"], ("int", 10))


class CollectTest(unittest.TestCase):
    """[10.5]."""

    def test_roots(self):
        body = (1, 2, (("slot", 0), ("con", "D", True), ("drop",), ("free", 0), END))
        machine = machine_of(
            ONE, ("op", "ref"), ("set", 0), TWO, ("op", "ref"), ("drop",), ONE, ("con", "C", True), ("closure", 1, 1), ONE, ("op", "ref"), ("call",), END,
            slots=2, more=(body,))
        machine.go_on(most=14)
        self.assertEqual((len(machine.frames), len(machine.heap), machine.reached()), (2, 6, (0, 2, 4, 5)))
        found = machine.frames
        self.assertEqual((machine.collect(), machine.collect()), (2, 0))
        self.assertEqual(machine.heap, {0: ("ref", ("int", 1)), 1: ("con", "C", ("int", 1)), 2: ("ref", ("int", 1)), 3: ("con", "D", ("at", 2))})
        self.assertEqual(machine.frames[0], ("U", 0, 12, (), (("at", 0), None), (), ()))
        self.assertEqual(machine.frames[1], ("U", 1, 2, (("at", 3),), (("at", 2), None), (("at", 1),), ()))
        self.assertNotEqual(found, machine.frames)
        self.assertEqual(machine.cell(1), ("con", "C", ("int", 1)))
        for wrong in (-1, 4, True, None, "0"):
            self.assertRaises(InvalidNumber, machine.cell, wrong)
        machine.go_on()
        self.assertEqual((machine.units, machine.reached()), ({"U": ("at", 1)}, (1,)))
        self.assertEqual((machine.collect(), machine.heap, machine.units), (3, {0: ("con", "C", ("int", 1))}, {"U": ("at", 0)}))

    def test_cells_that_hold_one_another(self):
        rows = (ONE, ("op", "ref"), ("set", 0), ("slot", 0), ("slot", 0), ("con", "C", True), ("op", ":="), ("drop",))
        machine = machine_of(*rows, ("slot", 0), END, slots=1)
        machine.go_on(most=len(rows))
        self.assertEqual((machine.heap, machine.collect()), ({0: ("ref", ("at", 1)), 1: ("con", "C", ("at", 0))}, 0))
        machine = machine_of(*rows, ONE, ("set", 0), ONE, END, slots=1)
        machine.go_on(most=len(rows) + 2)
        self.assertEqual((machine.reached(), machine.collect(), machine.heap), ((), 2, {}))

    def test_a_machine_with_collections_tells_the_same(self):
        for seed in range(8):
            rng = random.Random(seed)
            unit = program(random_text(rng, 2))
            code = compiled(flattened(unit))
            plain, other = Machine((("U", code),), (1, 2)), Machine((("U", code),), (1, 2))
            plain.go_on(most=30000)
            while other.ends is None and len(other) < 30000:
                other.go_on(most=rng.randint(1, 200))
                other.collect()
                self.assertEqual(len(other.heap), len(other.reached()))
                if rng.random() < 0.3:
                    other.undo(many=min(len(other), rng.randint(0, 150)))
            self.assertEqual((other.ends, other.output, other.left, len(other)), (plain.ends, plain.output, plain.left, len(plain)))
            if plain.ends == ("done",):
                self.assertEqual(other.shown(unit.book, unit.face), plain.shown(unit.book, unit.face))

    def test_undo_over_collections(self):
        unit = program("val r = ref (1 :: []) val a = read () val _ = (r := a :: !r; print (text a)) val rec f = fn 0 => [] | n => n :: f (n - 1) end val x = f 4 val _ = (1, (2, a)) = (1, (2, 3))")
        code = compiled(flattened(unit))
        machine = Machine((("U", code),), (7,))
        rng = random.Random(4)
        states = [state(machine)]
        marks = []
        while machine.ends is None:
            machine.step()
            states.append(state(machine))
        for _ in range(40):
            machine.undo(many=rng.randint(0, len(machine)))
            self.assertEqual(state(machine), states[len(machine)])
            begun = len(machine)
            for _ in range(rng.randint(0, 3)):
                machine.go_on(most=rng.randint(1, 30))
                marks.append(machine.collect())
            twin = machine.twin()
            self.assertEqual(state(twin), state(machine))
            twin.go_on()
            self.assertEqual(twin.shown(unit.book, unit.face), (("a", "7"), ("f", "fn"), ("r", "ref [7, 1]"), ("x", "[4, 3, 2, 1]")))
            back = min(begun, len(machine) - 1)
            if len(machine) > begun:
                machine.undo(many=len(machine) - back)
                self.assertEqual(state(machine), states[back])
            elif len(machine):
                machine.undo(many=len(machine))
        self.assertGreater(sum(marks), 0)
        machine.undo(many=len(machine))
        machine.go_on(most=20)
        machine.collect()
        kept = state(machine)
        machine.go_on(most=5)
        self.assertEqual((machine.undo(many=5), state(machine), machine.undo(many=0), state(machine)), (20, kept, 20, kept))
        self.assertEqual((machine.undo(many=1), state(machine)), (19, states[19]))


class MachineTest(unittest.TestCase):
    def test_example(self):
        machine = Machine((("U", IDLE),))
        self.assertEqual([machine.go_on(most=3), machine.frames[0][:5], machine.heap, machine.collect(), machine.go_on(), machine.units, str(machine)], [
            3, ("U", 1, 0, (), (("int", 4),)), {0: ("closure", "U", 1, ())}, 1, 4, {"U": ("int", 5)}, "machine: 7 steps, 0 frames, 0 cells"])

    def test_wrong_codes_and_inputs(self):
        bad = Code(((0, 0, (END,)),))
        using = Code(((0, 0, (("global", "U"), END)),), ("U",))
        for wrong in (*ODD, (IDLE,), (("u", IDLE),), [("U", IDLE)], (("U", IDLE), ("V",)), (("U", bad),), (("U", IDLE), ("U", bad)), (("U", IDLE, 1),), ((["U"], IDLE),)):
            self.assertRaises(InvalidCode, Machine, wrong)
            self.assertRaises(InvalidCode, Machine, wrong, None)
        for wrong in ((("U", IDLE), ("U", IDLE)), (("V", using),), (("V", using), ("U", IDLE)), (("U", using),)):
            self.assertRaises(InvalidOperation, Machine, wrong)
        Machine((("U", IDLE), ("V", using)))
        for wrong in ([1], (2 ** 62,), (True,), None, 1, ("1",)):
            self.assertRaises(InvalidOperation, Machine, (("U", IDLE),), wrong)

    def test_going_on(self):
        machine = Machine((("U", IDLE),), (1, 2))
        for wrong in (-1, 100001, True, None, "1", 10 ** 70):
            with self.assertRaises(InvalidNumber) as caught:
                machine.go_on(most=wrong)
            self.assertIs(caught.exception.given, wrong)
            if wrong not in (100001, 10 ** 70):
                self.assertRaises(InvalidNumber, machine.undo, many=wrong)
        self.assertEqual((machine.go_on(most=100000), machine.go_on(), machine.left, machine.output), (7, 0, (1, 2), ()))
        self.assertRaises(InvalidOperation, machine.step)
        with self.assertRaises(NothingToUndo) as caught:
            machine.undo(many=8)
        self.assertEqual((caught.exception.many, machine.undo(many=7), machine.ends), (8, 0, None))
        self.assertRaises(NothingToUndo, machine.undo)

    def test_equality(self):
        one, two = Machine((("U", IDLE),)), Machine((("U", IDLE),))
        self.assertTrue(one == two)
        one.step()
        self.assertTrue(one != two)
        two.step()
        one.collect()
        self.assertTrue(one == two)
        self.assertFalse(one == Machine((("V", IDLE),)))
        self.assertFalse(Machine((("U", IDLE),)) == Machine((("U", IDLE),), (1,)))
        for odd in ODD:
            self.assertFalse(one == odd)
        with self.assertRaises(TypeError):
            list(one)

    def test_nothing_is_shared(self):
        machine = Machine((("U", IDLE),))
        machine.go_on(most=3)
        heap, units = machine.heap, machine.units
        heap[0] = heap[5] = None
        units["U"] = 1
        self.assertEqual((machine.heap, machine.units), ({0: ("closure", "U", 1, ())}, {}))
        twin = machine.twin()
        twin.go_on()
        self.assertEqual((len(machine), machine.ends, len(twin)), (3, None, 7))

    def test_shown(self):
        unit = program("val x = ref (1, \"a\") exception E structure S = struct val y = E val f = fn n => n + 1 end end val z = S.y :: []")
        machine = Machine((("U", compiled(flattened(unit))),))
        self.assertRaises(InvalidOperation, machine.shown, unit.book, unit.face)
        for odd in ODD:
            if odd != Book():
                self.assertRaises(InvalidBook, machine.shown, odd, unit.face)
            self.assertRaises(InvalidFace, machine.shown, unit.book, odd)
        machine.go_on()
        self.assertEqual(machine.shown(unit.book, unit.face), (("S.f", "fn"), ("S.y", "E"), ("x", 'ref (1, "a")'), ("z", "[E]")))
        self.assertEqual(machine.shown(unit.book, Face()), ())
        for text in ("val w = 1", "exception D", "structure T = struct end", "structure S = struct val w = 1 end", "structure S = struct exception E end"):
            self.assertRaises(InvalidOperation, machine.shown, unit.book, program(text).face)
        self.assertRaises(InvalidFace, machine.shown, Book(), program("datatype t = A val x = A").face)
        raised = Machine((("U", compiled(flattened(program("val x = 1 div 0")))),))
        raised.go_on()
        self.assertRaises(InvalidOperation, raised.shown, Book(), base_face())

    def test_deep_values(self):
        unit = program("val rec f = fn 0 => [] | n => n :: f (n - 1) end val rec same = fn n => n end val x = f 350 val y = f 350 val e = x = y")
        run, machine, _ = both_runs(unit)
        self.assertEqual(machine.shown(unit.book, unit.face), run.ends[1])


class RulesAndMachineTest(unittest.TestCase):
    """[10.6], [0.12]."""

    def test_programs_of_all_kinds(self):
        ended = {"done": 0, "raised": 0}
        for seed in range(60):
            rng = random.Random(1000 + seed)
            unit = program(random_text(rng, rng.choice((2, 3))))
            inputs = tuple(rng.randint(-5, 5) for _ in range(rng.randint(0, 3)))
            run, machine, bound = both_runs(unit, inputs)
            self.assertEqual((machine.output, len(inputs) - len(machine.left)), (run.output, run.reads), seed)
            self.assertLessEqual(len(machine), bound)
            ended[run.ends[0]] += 1
            if run.ends[0] == "done":
                self.assertEqual((machine.ends, machine.shown(unit.book, unit.face)), (("done",), run.ends[1]), seed)
            else:
                self.assertEqual(machine.ends, run.ends)
        self.assertGreater(min(ended.values()), 8)

    def test_the_output_of_one_begins_with_that_of_the_other(self):
        unit = program("val rec f = fn n => (print (text n); f (n + 1)) end val x = (f 0 : int)")
        run, machine, _ = both_runs(unit, most=3000)
        machine.go_on(most=5000)
        self.assertIsNone(machine.ends)
        short = min(len(run.output), len(machine.output))
        self.assertGreater(short, 50)
        self.assertEqual(run.output[:short], machine.output[:short])

    def test_a_tail_leaves_as_many_frames(self):
        for row in ("f (n - 1)", "if n = 0 then 1 else f (n - 1)", "case n of m => f (m - 1) end", "let m = n - 1 in f m end", "(1; f (n - 1))",
                    "(raise Div) handle Div => f (n - 1) end", "let rec g = fn m => f (m - 1) end in g n end"):
            unit = program(f"val rec f = fn 0 => 1 | n => {row} end val x = f 300")
            machine = Machine((("U", compiled(flattened(unit))),))
            most = 0
            while machine.ends is None:
                machine.go_on(most=7)
                most = max(most, len(machine.frames))
            self.assertEqual((machine.ends, most), (("done",), 2), row)

    def test_great_patterns(self):
        names = [f"v{a}{b}" for a in "abcdefghij" for b in "abcdefghij"][:40]
        tree, worth = names[0], "0"
        for name in names[1:]:
            tree, worth = f"({tree}, {name})", f"({worth}, 1)"
        rows = " | ".join(f"({k}, 1, 2, 3) => {k}" for k in range(200))
        for text in (f"val f = fn {tree} => {names[-1]} end val x = (f {worth}, f {worth})",
                     f"val f = fn {rows} | _ => ~1 end val x = (f (199, 1, 2, 3), f (5, 1, 2, 4))"):
            unit = program(text)
            run, machine, bound = both_runs(unit)
            self.assertEqual((machine.ends, machine.shown(unit.book, unit.face)), (("done",), run.ends[1]))
            self.assertLessEqual(len(machine), bound)


if __name__ == "__main__":
    unittest.main()
