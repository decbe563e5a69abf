"""[0.12], [10.6]: the machine ends soon, also where structures are cut that have far more items than the text has nodes."""

import random
import unittest

from letquay.code.making import compiled
from letquay.errors import Refused
from letquay.machine.runs import Machine
from letquay.modules.flatten import flattened
from letquay.text.reader import read_signature, read_unit
from letquay.units.links import compiled_all, linked
from letquay.units.units import Unit
from tests.program_tools import both_runs, nodes_of, program
from tests.structure_maker import random_structures

LEAF, LEAF_SIG = "struct val x = 1 end", "sig val x : int end"
HIGH = "ABCDEFGHIJK"


def signatures(levels, fan, first=LEAF_SIG):
    """The text of signatures A, B, .., each with several structures of the one ahead, and the last name."""
    found = [f"signature A = {first}"]
    for old, new in zip(HIGH, HIGH[1:levels]):
        found.append(f"signature {new} = sig {' '.join(f'structure {name} : {old}' for name in fan)} end")
    return " ".join(found), HIGH[levels - 1]


def nested(levels, fan, text=LEAF, more=""):
    """The text of a structure with another one in it, and so on, which all but the first are other names of."""
    for _ in range(levels - 1):
        others = " ".join(f"structure {name} = {fan[0]}" for name in fan[1:])
        text = f"struct structure {fan[0]} = {text} {others} {more} end"
    return text


def letters(number):
    """Three letters for a number."""
    return f"{number:03}".translate(str.maketrans("0123456789", "abcdefghij"))


def applications(many, text="F(struct end)"):
    return " ".join(f"structure Z{letters(k)} = {text}" for k in range(many))


def keys_of(face):
    """What the table of a unit with a face is to have: a dict of dicts for structures, of `None` for all else."""
    return {
        **{("exception", name): None for name in face.exceptions}, **{("value", name): None for name in face.schemes},
        **{("structure", name): keys_of(inner) for name, inner in face.structures.items()}}


class CuttingTest(unittest.TestCase):
    def has_keys(self, machine, value, wanted):
        """The table has just these fields, and so have those in it."""
        _, keys, values = machine.cell(value[1])
        self.assertEqual(list(keys), sorted(wanted))
        for key, inner in zip(keys, values):
            if key[0] == "structure":
                self.has_keys(machine, inner, wanted[key])

    def check(self, text, share=1.0):
        """The machine does what the rules do, within this share of the steps that it may take."""
        unit = program(text)
        run, machine, bound = both_runs(unit)
        self.assertEqual((machine.ends, run.ends[0]), (("done",), "done"), text)
        self.assertEqual(machine.shown(unit.book, unit.face), run.ends[1])
        self.assertLessEqual(len(machine), bound * share, text)
        self.has_keys(machine, machine.units["U"], keys_of(unit.face))

    def test_a_functor_that_cuts_what_is_far_greater_than_its_text(self):
        """The fault that was found: 51260 steps for five applications, where 24973 are let."""
        head, last = signatures(10, "PQ")
        head += f" structure T = {nested(10, 'PQ')} functor F(X : sig end) = T :> {last} :> {last} :> sig end "
        unit = program(head + applications(5))
        run, machine, bound = both_runs(unit)
        self.assertEqual((nodes_of(unit), len(run), bound), (123, 131, 24973))
        self.assertLess(len(machine), 500)
        for many in (1, 2, 3, 5, 20):
            self.check(head + applications(many), 0.1)

    def test_functors_that_cut_in_many_ways(self):
        for fan, levels in (("PQ", 6), ("PQR", 4)):
            head, last = signatures(levels, fan)
            wide = nested(levels, fan, "struct val w = 2 val x = 1 end", "val v = 3")
            first, end = [".".join(name * (levels - 1)) + ".x" for name in (fan[0], fan[-1])]
            head += f" structure T = {wide} functor G(X : {last}) = struct structure Y = X :> {last} val b = Y.{end} end : sig val b : int end "
            for body in (
                    f"struct val a = X.{end} end", f"struct structure Y = X val a = Y.{end} end :> sig val a : int end", "X :> sig end", "G(X)",
                    f"struct structure Y = X :> {last} open Y val a = {first} end : sig val a : int end",
                    "struct structure Y = G(X) structure Z = G(X) val a = Y.b + Z.b end : sig val a : int end"):
                self.check(f"{head} functor F(X : {last}) = {body} {applications(12, 'F(T)')}", 0.1)

    def test_functors_that_are_not_applied(self):
        """What they would cut, if they were, does not count."""
        head, last = signatures(10, "PQ")
        head += f" structure T = {nested(10, 'PQ')} functor F(X : sig end) = T :> {last} functor G(X : sig end) = T :> {last}"
        self.check(f"{head} functor H(X : sig end) = T.P.P.P.P :> F :> F :> sig end {applications(26, 'H(struct end)')}", 0.1)

    def test_what_is_handed_on_is_cut(self):
        for fan, levels in (("PQ", 7), ("PQR", 5), ("PQRSTU", 3)):
            for leaf, sign in ((LEAF, LEAF_SIG), ("struct end", "sig end"), ("struct val x = 1 val y = 2 exception E end", "sig exception E val y : int end")):
                head, last = signatures(levels, fan, sign)
                wide = nested(levels, fan, f"{leaf[:-3]} val w = 7 structure W = struct end end", "val v = 3")
                for text in (
                        f"{head} structure T = {nested(levels, fan, leaf)} :> {last}", f"{head} structure Z = {wide} :> {last}",
                        f"functor F(X : {sign}) = {nested(levels, fan, 'X')} structure Z = F({leaf})",
                        f"functor F(X : sig end) = {nested(levels, fan, f'{leaf} :> {sign}')} structure Z = F(struct end)",
                        f"structure Z = {nested(levels, fan, f'{leaf} :> {sign}')}",
                        f"{head} structure Z = struct structure W = {wide} structure Y = W :> {last} end :> sig structure Y : sig end end"):
                    self.check(text, 0.8)

    def test_what_is_hidden_and_opened(self):
        leaf = "struct val x = 1 val w = 2 structure D = struct val y = 3 val v = 4 end end"
        sign = "sig val x : int structure D : sig val y : int end end"
        for text in (
                f"structure A = {leaf} :> {sign} structure B = struct structure A = A structure C = A.D end open B val z = A.x + C.y",
                f"functor F(X : {sign}) = struct structure D = X.D open X structure E = D val x = E.y end structure A = F({leaf}) structure B = F(A) open A open B val z = E.y",
                f"structure A = struct structure D = {leaf} : {sign} open D structure C = D val x = 5 end open A val y = A.D.D.y + C.y + x",
                f"structure A = {leaf} :> {sign} structure D = struct end open A val f = fn n => n + D.y end val a = f x"):
            self.check(text)

    def test_signatures_of_units(self):
        leaf = "struct val x = 1 val w = 2 end"
        unit = program(
            f"structure A = {nested(6, 'PQ', leaf)} val v = A.P.Q.P.P.P.x val u = 1",
            signature=read_signature("sig structure A : sig structure P : sig structure Q : sig end end end val v : int end"))
        machine = Machine((("U", compiled(flattened(unit))),))
        machine.go_on()
        self.assertEqual(machine.shown(unit.book, unit.face), (("v", "1"),))
        self.has_keys(machine, machine.units["U"], keys_of(unit.face))

    def test_linked_units(self):
        head, last = signatures(8, "PQ")
        way = ".".join("PQPQPQP")
        units = (
            Unit("A", (), read_unit(f"structure T = {nested(8, 'PQ', 'struct val w = 5 val x = 1 end')}")),
            Unit("B", ("A",), read_unit(f"{head} functor F(X : sig end) = A.T :> {last} :> sig end structure Y = A.T :> {last} {applications(20)}")),
            Unit("C", ("A", "B"), read_unit(f"open B open A val x = Y.{way}.x + T.{way}.w")))
        parts = compiled_all(units)
        machine = Machine(linked(parts))
        machine.go_on(most=100000)
        self.assertEqual((machine.ends, machine.shown(parts[2].program.book, parts[2].program.face)), (("done",), (("x", "6"),)))
        self.assertLess(len(machine), 5000)
        for part in parts:
            self.has_keys(machine, machine.units[part.unit.name], keys_of(part.program.face))

    def test_many_keys_that_are_opened(self):
        """One step of the rules opens all keys of a structure, however many there are."""
        declared = " ".join(f"exception E{letters(k)}" for k in range(150))
        self.check(f"structure S = struct {declared} end functor F(X : sig end) = struct {'open S ' * 38} end {applications(50)}", 0.2)
        self.check(f"structure S = struct {declared} val t = 5 end {'open S ' * 30} val y = (raise Eaaa) handle Eaab => 1 | Eaaa => t end", 0.5)

    def test_exceptions_with_long_paths(self):
        """One step of the rules tries a row, however many exceptions stand in it, and however long their paths are."""
        rng = random.Random(7)
        loop = "val rec g = fn 0 => 0 | k => let _ = f t in g (k - 1) end end"
        for many, single, double in ((200, 22, 5), (100, 26, 0), (10, 20, 6)):
            way = ".".join("S" * (single + 1))
            paths = [".".join([way, *rng.choices("PQ", k=double), "E"]) for _ in range(many)]
            inner = nested(single + 1, "S", nested(double + 1, "PQ", "struct exception E end"))
            head = f"structure S = {inner} val t = let e = {paths[0]} in ({', '.join('e' * many)}) end "
            row = f"({', '.join(paths)})"
            for text in (
                    f"val f = fn {row} => 1 end {loop} val _ = g 40", f"val r = ref 0 val _ = while !r < 40 do case t of {row} => r := !r + 1 end end",
                    f"functor F(X : sig end) = struct structure S = S val f = fn {row} => 1 end {loop} val _ = g 40 end structure Z = F(struct end) :> sig end",
                    f"{'open S ' * single} val f = fn {row.replace(way, 'S')} => 1 end {loop} val _ = g 40"):
                self.check(f"{head} {text}", 0.25)

    def test_random_structures(self):
        many = 0
        for seed in range(60):
            try:
                unit = program(random_structures(random.Random(seed + 5000)))
            except Refused:
                continue
            run, machine, bound = both_runs(unit)
            self.assertEqual((machine.ends[0], machine.output), (run.ends[0], run.output))
            self.assertLessEqual(len(machine), bound // 4)
            if run.ends[0] == "done":
                many += 1
                self.assertEqual(machine.shown(unit.book, unit.face), run.ends[1])
                self.has_keys(machine, machine.units["U"], keys_of(unit.face))
        self.assertGreater(many, 40)


if __name__ == "__main__":
    unittest.main()
