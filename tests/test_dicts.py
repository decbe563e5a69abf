"""[0.1]: each returned dict has ascending keys, whatever the order in which the things came."""

import itertools
import unittest

from letquay.cases.rows import meets, taken_row
from letquay.code.making import compiled
from letquay.data.faces import Face, base_face
from letquay.desk.desk import Desk
from letquay.desk.sessions import Session
from letquay.infer.declarations import typed_values
from letquay.machine.runs import Machine
from letquay.modules.flatten import flattened
from letquay.modules.functors import typed_functor
from letquay.modules.matching import fitted, matched, sealed
from letquay.modules.programs import typed_unit
from letquay.modules.scopes import Scope
from letquay.modules.signatures import signed_face
from letquay.modules.structures import typed_structure
from letquay.text.printer import write_declaration
from letquay.text.reader import read_declaration, read_pattern, read_signature, read_structure, read_unit
from letquay.types.books import Book
from letquay.types.schemes import Scheme
from letquay.units.links import compiled_all, updated
from letquay.units.units import Unit, compiled_unit, face_of_unit

INT = ("made", 1, ())
ORDERS = list(itertools.permutations("ABC"))
LOW = {"A": "a", "B": "b", "C": "c"}


def dicts_of(thing, seen):
    """The pairs (class, name) and dicts of all attributes and properties of an object, also of those in it."""
    if isinstance(thing, (tuple, list)):
        return [pair for part in thing for pair in dicts_of(part, seen)]
    if isinstance(thing, dict):
        return [pair for part in thing.values() for pair in dicts_of(part, seen)]
    kind = thing.__class__
    if not kind.__module__.startswith("letquay") or id(thing) in seen:
        return []
    seen[id(thing)] = thing
    names = [name for name in vars(thing) if not name.startswith("_")]
    names.extend(name for line in kind.__mro__ for name, entry in vars(line).items() if isinstance(entry, property))
    found = []
    for name in names:
        worth = getattr(thing, name)
        if isinstance(worth, dict):
            found.append(((kind.__name__, name), worth))
        found.extend(dicts_of(worth, seen))
    return found


class DictsTest(unittest.TestCase):
    def ascends(self, found, wanted):
        self.assertEqual(list(found), wanted)

    def all_ascend(self, *things):
        """All dicts in some objects are ascending; the pairs (class, name) of those with two keys at least."""
        found = set()
        for told, worth in dicts_of(things, {}):
            self.assertEqual(list(worth), sorted(worth), told)
            if len(worth) > 1:
                found.add(told)
        return found

    def test_what_patterns_bind(self):
        value = ("tuple", (("int", 1), ("int", 2), ("int", 3)))
        for order in itertools.permutations("abc"):
            pattern = read_pattern("(" + ", ".join(order) + ")")
            self.ascends(meets(value, pattern), ["a", "b", "c"])
            self.ascends(taken_row(value, ((pattern, True), (pattern, False)), (False, False))[1], ["a", "b", "c"])
            self.ascends(meets(value, read_pattern("{} as ({}, {}, _) | ({}, _, {} as {})".format(*order, *order[::-1]))), ["a", "b", "c"])

    def test_faces(self):
        scheme = Scheme(Book(), (), INT)
        for order in ORDERS:
            face, other = Face(), Face()
            for name in order:
                face = face.with_value(LOW[name], scheme).with_type(LOW[name], (0, INT)).with_constructor(name, 3, 0)
                face = face.with_exception(f"E{name}", None).with_structure(name, Face())
                other = other.with_structure(f"S{name}", face).with_value(f"z{LOW[name]}", scheme)
            for found in (face, face.opened(other), other.opened(face), Face().opened(face), base_face().opened(face)):
                self.assertGreaterEqual(
                    self.all_ascend(found), {("Face", kind) for kind in ("schemes", "types", "tags", "exceptions", "structures")})
            self.ascends(face.with_makers({9: (0, INT), 8: (0, INT), 3: (0, ("made", 9, ()))}).schemes, ["a", "b", "c"])

    def test_scopes(self):
        book, signed = signed_face(Book(), Scope(base_face()), read_signature("sig end"))
        book, functor = typed_functor(book, Scope(base_face()), "X", ("sig", ()), ("struct", ()))
        for order in ORDERS:
            scope = Scope(base_face(), signatures={name: signed for name in order}, functors={name: functor for name in order})
            plain = Scope(base_face())
            for name in order:
                plain = plain.with_signature(name, signed).with_functor(name, functor)
            for found in (scope, plain, scope.with_face(Face()), scope.opened(base_face()), scope.with_signature("AA", signed), scope.with_functor("AA", functor)):
                self.assertGreaterEqual(self.all_ascend(found), {("Scope", "signatures"), ("Scope", "functors")})

    def test_realizations_and_what_is_made_of_them(self):
        for order in ORDERS:
            types = " ".join(f"type {LOW[name]}" for name in order)
            values = " ".join(f"val {LOW[name]} : {LOW[name]}" for name in order[::-1])
            book, signed = signed_face(Book(), Scope(base_face()), read_signature(f"sig {types} {values} structure S : sig {types} end end"))
            inner = "type c = string type b = int type a = bool"
            result = typed_structure(book, Scope(base_face()), read_structure(
                f"struct {inner} val c = \"\" val b = 1 val a = True structure S = struct {inner} end end"))
            found = matched(result.book, result.face, signed)
            self.ascends(found, list(signed.bound))
            again = signed.put({stamp: found[stamp] for stamp in sorted(found)[::-1]})
            self.all_ascend(again, fitted(result.book, result.face, signed), sealed(result.book, result.face, signed), result, signed, signed.renewed(book))

    def test_typings(self):
        for order in itertools.permutations("abc"):
            for text in (f"val ({', '.join(order)}) = (1, 2, 3)", "val rec " + " and ".join(f"{name} = fn x => x end" for name in order)):
                typing = typed_values(Book(), base_face(), read_declaration(text))
                self.ascends(typing.names, ["a", "b", "c"])
                self.assertEqual(self.all_ascend(typing), {("Typing", "names")})

    def test_programs(self):
        for order in ORDERS:
            text = " ".join(
                f"signature {name} = sig val {LOW[name]} : int end functor {name}(X : {name}) = X structure {name} = struct val {LOW[name]} = 1 end "
                f"val {LOW[name]} = {name}.{LOW[name]} datatype t{LOW[name]} = K{name} exception E{name}" for name in order)
            face = typed_unit(read_unit("val c = 1 val b = 2")).face
            program = typed_unit(read_unit(text), uses={f"U{name}": face for name in order})
            self.ascends(program.uses, ["UA", "UB", "UC"])
            self.ascends(program.signatures, ["A", "B", "C"])
            self.ascends(program.functors, ["A", "B", "C"])
            session = Session()
            for tree in read_unit(text):
                session.phrase(write_declaration(tree))
            wanted = {("Program", "uses"), ("Program", "signatures"), ("Program", "functors"), *[
                ("Face", kind) for kind in ("schemes", "types", "tags", "exceptions", "structures")]}
            self.assertGreaterEqual(self.all_ascend(program), wanted)
            self.assertGreaterEqual(self.all_ascend(session.program), wanted - {("Program", "uses")})

    def test_machines(self):
        code = compiled(flattened(typed_unit(read_unit("val r = ref 1 val _ = r := 2 structure S = struct val f = fn x => x end end"))))
        for order in ORDERS:
            machine = Machine(tuple((name, code) for name in order))
            while machine.ends is None:
                machine.go_on(most=7)
                self.all_ascend(machine, machine.twin())
                machine.collect()
                self.all_ascend(machine)
            self.ascends(machine.units, ["A", "B", "C"])
            self.assertEqual(self.all_ascend(machine), {("Machine", "units"), ("Machine", "heap")})
            machine.undo(many=len(machine) // 4)
            self.ascends(machine.units, sorted(machine.units))
            self.ascends(machine.heap, list(range(len(machine.heap))))

    def test_compiled_units(self):
        ahead = tuple(Unit(name, (), read_unit(f"val c = 1 datatype t = K val {LOW[name]} = K")) for name in "CBA")
        faces = {part.unit.name: part.face for part in compiled_all(ahead)}
        for order in ORDERS:
            unit = Unit("U", order, read_unit("structure D = C structure E = A exception F exception E"))
            for passed in ORDERS:
                part = compiled_unit(unit, {name: faces[name] for name in (*passed,)})
                self.ascends(part.faces, ["A", "B", "C"])
                self.assertEqual(part.unit.uses, order)
                self.ascends(part.program.uses, ["A", "B", "C"])
                self.assertGreaterEqual(
                    self.all_ascend(part), {("Compiled", "faces"), ("Program", "uses"), ("Face", "structures"), ("Face", "exceptions")})
                self.all_ascend(face_of_unit(unit, {name: faces[name] for name in passed}))
            parts = compiled_all((unit, *ahead))
            self.ascends(parts[-1].faces, ["A", "B", "C"])
            self.all_ascend(updated(parts[::-1], (unit, *ahead[::-1])), updated(parts[:2], (*ahead, unit)))

    def test_desks(self):
        for order in ORDERS:
            desk = Desk()
            for name in order:
                desk.put(Unit(name, (), read_unit("val x = 1")))
                desk.put(Unit(f"U{name}", order, read_unit("structure S = B structure D = C")))
            wanted = ["A", "B", "C", "UA", "UB", "UC"]
            self.ascends(desk.verdicts, wanted)
            for name in ("UA", "UB", "UC"):
                self.ascends(desk.part(name).faces, ["A", "B", "C"])
            desk.take("B")
            desk.undo()
            desk.put(Unit("AA", ("UA",), ()))
            self.ascends(desk.verdicts, sorted([*wanted, "AA"]))
            self.assertEqual(self.all_ascend(desk, desk.twin()), {("Desk", "verdicts")})


if __name__ == "__main__":
    unittest.main()
