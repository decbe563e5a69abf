"""That what the interface of the document lists exists, with its arguments, in the file under which it is listed."""

import importlib
import inspect
import unittest

from tests.module_tools import SCOPE, signed, unit

FUNCTIONS = {
    "letquay.infer.expressions": ("is_final(value)", "typed(book, face, tree)"),
    "letquay.infer.demanded": ("demands_of(book, face, tree)",),
    "letquay.infer.derivations": ("is_derivation(book, face, tree, value)",),
    "letquay.infer.declarations": ("typed_values(book, face, tree)", "is_derivation_of(book, face, tree, value)"),
    "letquay.cases.rows": (
        "fits(book, face, T, value)", "is_value_of(book, face, T, value)", "is_told_of(book, face, T, value)",
        "alternatives(pattern)", "meets(value, pattern)", "is_met(value, told)", "taken_row(value, rows, answers)",
        "missing(book, face, T, rows)", "is_missing(book, face, T, rows, value)", "idle_rows(book, face, T, rows)",
        "idle_alternatives(book, face, T, rows)", "example(book, face, T, told)"),
    "letquay.cases.trees": (
        "tree_of(book, face, T, rows)", "is_tree_of(book, face, T, rows, value)", "taken(tree, value, answers)",
        "at_place(value, place)"),
    "letquay.modules.scopes": ("Scope(face, *, signatures=None, functors=None)",),
    "letquay.modules.signatures": ("Signed(book, face, bound, entries)", "signed_face(book, scope, tree)", "bare(book, face)"),
    "letquay.modules.matching": (
        "matched(book, found, signed)", "is_matching(book, found, signed, value)", "fitted(book, found, signed)",
        "sealed(book, found, signed)", "is_below(book, one, other)"),
    "letquay.modules.structures": ("typed_structure(book, scope, tree)", "typed_declarations(book, scope, trees)"),
    "letquay.modules.functors": (
        "typed_functor(book, scope, name, signature, body)", "applied(book, functor, found)",
        "is_same_up_to(book, face, other, stamps)"),
    "letquay.modules.programs": ("typed_unit(declarations, *, signature=None, book=None, uses=None)",),
}
METHODS = {
    ("letquay.modules.scopes", "Scope"): (
        "with_face(self, face)", "with_signature(self, name, signed)", "with_functor(self, name, functor)",
        "opened(self, other)", "__eq__(self, other)"),
    ("letquay.modules.signatures", "Signed"): ("put(self, types)", "renewed(self, book)", "__len__(self)", "__eq__(self, other)"),
    ("letquay.infer.expressions", "Typing"): ("__eq__(self, other)", "__str__(self)"),
    ("letquay.modules.programs", "Program"): ("__eq__(self, other)",),
}


class InterfaceTest(unittest.TestCase):
    def test_functions(self):
        for module, listed in FUNCTIONS.items():
            for text in listed:
                name = text.partition("(")[0]
                found = getattr(importlib.import_module(module), name)
                self.assertEqual((found.__module__, f"{name}{inspect.signature(found)}"), (module, text))

    def test_methods(self):
        for (module, name), listed in METHODS.items():
            kind = getattr(importlib.import_module(module), name)
            self.assertEqual(kind.__module__, module)
            for text in listed:
                method = text.partition("(")[0]
                self.assertEqual(f"{method}{inspect.signature(vars(kind)[method])}", text)

    def test_properties(self):
        found = unit("val x = 1 functor F(X : sig end) = X")
        for thing, names in (
                (found, "book face inner uses declarations signature notes faces signatures functors"),
                (found.notes[0][1], "body marked derivation scheme names cases"), (found.functors["F"], "parameter face made notes faces"),
                (SCOPE, "face signatures functors"), (signed("sig end")[1], "face bound entries")):
            for name in names.split():
                self.assertTrue(hasattr(thing, name), name)


if __name__ == "__main__":
    unittest.main()
