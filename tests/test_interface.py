"""That what the interface of the document lists exists, with its arguments, in the file under which it is listed."""

import importlib
import inspect
import unittest

from letquay.desk.desk import Desk
from letquay.desk.sessions import Session
from letquay.machine.runs import Machine
from letquay.rules.runs import Run
from letquay.units.units import Unit, compiled_unit
from tests.module_tools import SCOPE, signed, unit

FUNCTIONS = {
    "letquay.infer.expressions": ("is_final(value)", "typed(book, face, tree)"),
    "letquay.infer.demanded": ("demands_of(book, face, tree)",),
    "letquay.infer.derivations": ("is_derivation(book, face, tree, value)",),
    "letquay.infer.declarations": ("typed_values(book, face, tree)", "is_derivation_of(book, face, tree, value)"),
    "letquay.cases.rows": (
        "fits(book, face, T, value)", "is_value_of(book, face, T, value)", "is_told_of(book, face, T, value)",
        "alternatives(pattern)", "meets(value, pattern)", "is_met(value, told)", "taken_row(value, rows, answers)",
        "missing(book, face, T, rows)", "is_missing(book, face, T, rows, value)", "idle_rows(book, face, T, rows)",
        "idle_alternatives(book, face, T, rows)", "example(book, face, T, told)"),
    "letquay.cases.trees": (
        "tree_of(book, face, T, rows)", "is_tree_of(book, face, T, rows, value)", "taken(tree, value, answers)",
        "at_place(value, place)"),
    "letquay.modules.scopes": ("Scope(face, *, signatures=None, functors=None)",),
    "letquay.modules.signatures": ("Signed(book, face, bound, entries)", "signed_face(book, scope, tree)", "bare(book, face)"),
    "letquay.modules.matching": (
        "matched(book, found, signed)", "is_matching(book, found, signed, value)", "fitted(book, found, signed)",
        "sealed(book, found, signed)", "is_below(book, one, other)"),
    "letquay.modules.structures": ("typed_structure(book, scope, tree)", "typed_declarations(book, scope, trees)"),
    "letquay.modules.functors": (
        "typed_functor(book, scope, name, signature, body)", "applied(book, functor, found)",
        "is_same_up_to(book, face, other, stamps)"),
    "letquay.modules.programs": ("typed_unit(declarations, *, signature=None, book=None, uses=None)",),
    "letquay.rules.runs": ("Run(program, inputs=())", "outcome(program, inputs=(), *, most=20000)"),
    "letquay.modules.flatten": ("flattened(program)", "picked(face, term)"),
    "letquay.code.core": ("is_core(value)", "core_nodes(core)", "free_units(core)"),
    "letquay.code.blocks": ("Code(blocks, uses=())",),
    "letquay.code.making": ("compiled(core, *, uses=())",),
    "letquay.code.judge": ("is_sound(code)", "heights(code)", "known_slots(code, block, index)"),
    "letquay.machine.runs": ("Machine(codes, inputs=())",),
    "letquay.units.units": (
        "Unit(name, uses, declarations, *, signature=None)", "face_of_unit(unit, faces)", "compiled_unit(unit, faces)"),
    "letquay.units.links": (
        "order_of(units)", "whole(units)", "compiled_all(units)", "linked(parts)", "anew(parts, units)", "updated(parts, units)"),
    "letquay.desk.sessions": ("Session(inputs=())",),
    "letquay.desk.desk": ("Desk()",),
    "letquay.text.shell": ("Shell(inputs=())",),
}
CONSTANTS = {
    "letquay.text.trees": {"MAX_DEPTH": 60, "MAX_NODES": 3000}, "letquay.types.books": {"MAX_ARITY": 4}, "letquay.types.terms": {"MAX_SIZE": 300},
    "letquay.data.faces": {"MAX_ITEMS": 2000}, "letquay.cases.rows": {"MAX_ALTERNATIVES": 64, "MAX_MISSING": 200}, "letquay.cases.trees": {"MAX_TREE": 2000},
    "letquay.rules.runs": {"MAX_STEPS": 20000, "MAX_STRING": 10000, "MAX_SHOWN": 400}, "letquay.code.core": {"MAX_CORE": 20000, "MAX_CORE_DEPTH": 160},
    "letquay.units.units": {"MAX_UNITS": 8}, "letquay.desk.desk": {"MAX_UNITS": 8, "MAX_CLAIMS": 8},
}
METHODS = {
    ("letquay.modules.scopes", "Scope"): (
        "with_face(self, face)", "with_signature(self, name, signed)", "with_functor(self, name, functor)",
        "opened(self, other)", "__eq__(self, other)"),
    ("letquay.modules.signatures", "Signed"): ("put(self, types)", "renewed(self, book)", "__len__(self)", "__eq__(self, other)"),
    ("letquay.infer.expressions", "Typing"): ("__eq__(self, other)", "__str__(self)"),
    ("letquay.modules.programs", "Program"): ("__eq__(self, other)",),
    ("letquay.rules.runs", "Run"): (
        "step(self)", "go_on(self, *, most=1000)", "is_over(self)", "undo(self, *, many=1)", "twin(self)", "__len__(self)", "__eq__(self, other)", "__str__(self)"),
    ("letquay.code.blocks", "Code"): ("at(self, block, index)", "__len__(self)", "__eq__(self, other)", "__str__(self)"),
    ("letquay.machine.runs", "Machine"): (
        "step(self)", "go_on(self, *, most=1000)", "collect(self)", "reached(self)", "cell(self, address)", "shown(self, book, face)", "undo(self, *, many=1)",
        "twin(self)", "__len__(self)", "__eq__(self, other)", "__str__(self)"),
    ("letquay.units.units", "Unit"): ("with_declarations(self, declarations)", "with_signature(self, signature)", "__eq__(self, other)", "__str__(self)"),
    ("letquay.units.units", "UnitFace"): ("__eq__(self, other)", "__len__(self)"),
    ("letquay.units.units", "Compiled"): ("__eq__(self, other)",),
    ("letquay.desk.sessions", "Session"): (
        "phrase(self, text)", "asked(self, text)", "scheme_of(self, name)", "text(self, name)", "undo(self, *, many=1)", "redo(self, *, many=1)", "during(self, call)",
        "twin(self)", "__len__(self)", "__eq__(self, other)", "__str__(self)"),
    ("letquay.desk.desk", "Desk"): (
        "part(self, name)", "users(self, name)", "put(self, unit)", "take(self, name)", "revise(self, name, change)", "demand(self, claim)", "waive(self, claim)",
        "outcome(self, inputs=(), *, most=100000)", "undo(self, *, many=1)", "redo(self, *, many=1)", "during(self, call)", "twin(self)", "__getitem__(self, name)",
        "__contains__(self, value)", "__len__(self)", "__eq__(self, other)", "__str__(self)"),
    ("letquay.text.shell", "Shell"): ("answer(self, line)", "__call__(self, line)", "session(self)", "desk(self)", "__len__(self)", "__str__(self)"),
}


class InterfaceTest(unittest.TestCase):
    def test_functions(self):
        for module, listed in FUNCTIONS.items():
            for text in listed:
                name = text.partition("(")[0]
                found = getattr(importlib.import_module(module), name)
                self.assertEqual((found.__module__, f"{name}{inspect.signature(found)}"), (module, text))

    def test_methods(self):
        for (module, name), listed in METHODS.items():
            kind = getattr(importlib.import_module(module), name)
            self.assertEqual(kind.__module__, module)
            for text in listed:
                method = text.partition("(")[0]
                self.assertEqual(f"{method}{inspect.signature(vars(kind)[method])}", text)

    def test_constants(self):
        for module, listed in CONSTANTS.items():
            for name, value in listed.items():
                self.assertEqual(getattr(importlib.import_module(module), name), value)

    def test_properties(self):
        found = unit("val x = 1 functor F(X : sig end) = X")
        part = compiled_unit(Unit("U", (), ()), {})
        for thing, names in (
                (found, "book face inner uses declarations signature notes faces signatures functors"),
                (found.notes[0][1], "body marked derivation scheme names cases"), (found.functors["F"], "parameter face made notes faces"),
                (SCOPE, "face signatures functors"), (signed("sig end")[1], "face bound entries"), (Run(found), "program inputs output reads frames next ends"),
                (part.code, "blocks uses size"), (Machine((("U", part.code),)), "ends output left frames heap units"), (part.unit, "name uses declarations signature nodes"),
                (part.face, "face book origins"), (part, "unit face faces program code"), (Session(), "inputs phrases program output reads names"),
                (Desk(), "names verdicts claims made")):
            for name in names.split():
                self.assertTrue(hasattr(thing, name), name)


if __name__ == "__main__":
    unittest.main()
