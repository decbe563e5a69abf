"""[1.7] and part 1c: the one text of each tree."""

import unittest

from letquay.errors import InvalidTree, ParseError
from letquay.text import printer, reader
from letquay.text.tokens import tokens_of
from tests.judge import judged
from tests.making import KINDS, Maker
from tests.odd import ODD

READERS = {kind: getattr(reader, f"read_{kind}") for kind in KINDS}
WRITERS = {kind: getattr(printer, f"write_{kind}") for kind in KINDS}

# For each place the text ahead of a part and behind it, and the least row that stands there without parentheses.
TYPES = (("x", 3), ("'a", 3), ("''a", 3), ("unit", 3), ("(int, int) t", 3), ("int list", 2), ("int * int", 1),
         ("int -> int", 0))
TYPE_PLACES = (("{} -> int", 1), ("int -> {}", 0), ("{} * int", 2), ("int * {} * int", 2), ("{} list", 2),
               ("({}, int) t", 0), ("(int, {}) t", 0))
PATTERNS = (("_", 4), ("x", 4), ("~1", 4), ("\"s\"", 4), ("A.B", 4), ("[]", 4), ("()", 4), ("(1, 2)", 4), ("A 1", 3),
            ("Cons ()", 3), ("Nil 1", 3), ("1 :: 2", 2), ("x as 1", 1), ("1 | 2", 0))
PATTERN_PLACES = (("{} | _", 1), ("_ | {}", 0), ("y as {}", 1), ("{} :: _", 3), ("_ :: {}", 2), ("A {}", 4),
                  ("({}, _)", 0), ("(_, {})", 0), ("Nil {}", 4))
EXPRESSIONS = (
    ("1", 10), ("~1", 10), ("\"s\"", 10), ("x", 10), ("A.x", 10), ("A.B", 10), ("[]", 10), ("()", 10), ("(a, b)", 10),
    ("(a; b)", 10), ("(a : int)", 10), ("!a", 10), ("ref a", 10), ("text a", 10), ("print a", 10), ("read a", 10),
    ("fn _ => a end", 10), ("case a of _ => b end", 10), ("while a do b end", 10), ("let x = a in b end", 10),
    ("let rec f = fn _ => a end in b end", 10), ("a b", 9), ("Cons a", 9), ("[] a", 9), ("a * b", 8), ("a div b", 8),
    ("a mod b", 8), ("a ^ b", 7), ("a + b", 7), ("a - b", 7), ("a :: b", 6), ("a = b", 5), ("a < b", 5),
    ("a := b", 4), ("a andalso b", 3), ("a orelse b", 2), ("a handle _ => b end", 1), ("if a then b else c", 0),
    ("raise a", 0),
)
EXPRESSION_PLACES = (
    ("if {} then b else c", 0), ("if a then {} else c", 0), ("if a then b else {}", 0), ("raise {}", 0),
    ("{} handle _ => b end", 1), ("a handle _ => {} end", 0), ("a handle _ when {} => b end", 0), ("{} orelse b", 3),
    ("a orelse {}", 2), ("{} andalso b", 4), ("a andalso {}", 3), ("{} := b", 5), ("a := {}", 5), ("{} = b", 6),
    ("a = {}", 6), ("{} < b", 6), ("a < {}", 6), ("{} :: b", 7), ("a :: {}", 6), ("{} + b", 7), ("a + {}", 8),
    ("{} - b", 7), ("a - {}", 8), ("{} ^ b", 7), ("a ^ {}", 8), ("{} * b", 8), ("a * {}", 9), ("{} div b", 8),
    ("a div {}", 9), ("{} mod b", 8), ("a mod {}", 9), ("{} b", 9), ("a {}", 10), ("!{}", 10), ("ref {}", 10),
    ("text {}", 10), ("print {}", 10), ("read {}", 10), ("({}, b)", 0), ("(a, {})", 0), ("({}; b)", 0),
    ("(a; b; {})", 0), ("({} : int)", 0), ("fn _ => {} end", 0), ("fn _ when {} => b end", 0),
    ("case {} of _ => b end", 0), ("case a of _ => {} end", 0), ("while {} do b end", 0), ("while a do {} end", 0),
    ("let x = {} in b end", 0), ("let x = a in {} end", 0), ("let rec f = fn _ => {} end in b end", 0),
    ("let rec f = fn _ => a end in {} end", 0), ("Cons {}", 10), ("[] {}", 10),
)


def without(text, first, last):
    return text[:first] + " " + text[first + 1:last] + " " + text[last + 1:]


def pairs_of(text):
    """The indices of parentheses that belong together."""
    stack, found = [], []
    for kind, _, at in tokens_of(text):
        if kind == "(":
            stack.append(at)
        elif kind == ")":
            found.append((stack.pop(), at))
    return found


class ParenthesesTest(unittest.TestCase):
    def check(self, kind, forms, places):
        for form, row in forms:
            part = READERS[kind](form)
            self.assertEqual(WRITERS[kind](part), form)
            for place, least in places:
                if (form, place) in (("(a; b)", "(a; b; {})"), ("()", "Cons {}")):
                    continue
                tree = READERS[kind](place.format(f"({form})"))
                text = place.format(form if row >= least else f"({form})")
                text = self.as_written(text, form, place)
                self.assertEqual(WRITERS[kind](tree), text)

    @staticmethod
    def as_written(text, form, place):
        """`Cons` of a tuple of two is written with its sign."""
        if place == "Cons {}" and form == "(a, b)":
            return "a :: b"
        return text

    def test_types(self):
        self.check("type", TYPES, TYPE_PLACES)

    def test_patterns(self):
        for form, row in PATTERNS:
            places = PATTERN_PLACES
            if "x" in form:
                places = [(place.replace("| _", "| x").replace("_ |", "x |"), least) for place, least in places]
            self.check("pattern", ((form, row),), places)

    def test_expressions(self):
        self.check("expression", EXPRESSIONS, EXPRESSION_PLACES)

    def test_a_sequence_in_a_sequence(self):
        e = reader.read_expression
        self.assertEqual(printer.write_expression(e("(a; (b; c))")), "(a; b; c)")
        self.assertEqual(printer.write_expression(e("((a; b); c)")), "((a; b); c)")

    def test_no_pair_can_be_left_out(self):
        for kind in KINDS:
            for seed in range(60):
                tree = Maker(seed).any_tree(kind, seed % 5)
                text = WRITERS[kind](tree)
                for first, last in pairs_of(text):
                    try:
                        other = READERS[kind](without(text, first, last))
                    except ParseError:
                        continue
                    self.assertNotEqual(other, tree, text)


class TextsTest(unittest.TestCase):
    def test_a_text_is_read_as_the_tree(self):
        for kind in KINDS:
            for seed in range(300):
                tree = Maker(seed).any_tree(kind, seed % 6)
                text = WRITERS[kind](tree)
                self.assertEqual(READERS[kind](text), tree)
                self.assertEqual(WRITERS[kind](READERS[kind](text)), text)

    def test_nil_and_cons(self):
        p, e = printer.write_pattern, printer.write_expression
        any_ = ("any",)
        one = ("int", 1)
        pair, triple = ("tuple", (any_, any_)), ("tuple", (any_, any_, any_))
        for tree, text in ((("con", ("Nil",), None), "[]"), (("con", ("Nil",), any_), "Nil _"),
                           (("con", ("A", "Nil"), None), "A.Nil"), (("con", ("Cons",), None), "Cons"),
                           (("con", ("Cons",), pair), "_ :: _"), (("con", ("Cons",), triple), "Cons (_, _, _)"),
                           (("con", ("A", "Cons"), pair), "A.Cons (_, _)"), (("con", ("Cons",), any_), "Cons _"),
                           (("con", ("A",), pair), "A (_, _)")):
            self.assertEqual(p(tree), text)
        pair = ("tuple", (one, one))
        for tree, text in ((("con", ("Nil",)), "[]"), (("call", ("con", ("Nil",)), pair), "[] (1, 1)"),
                           (("call", ("con", ("Cons",)), pair), "1 :: 1"), (("con", ("Cons",)), "Cons"),
                           (("call", ("con", ("A", "Cons")), pair), "A.Cons (1, 1)"),
                           (("call", ("con", ("Cons",)), one), "Cons 1"), (("con", ("A", "Nil")), "A.Nil"),
                           (("call", ("call", ("con", ("Cons",)), pair), one), "(1 :: 1) 1")):
            self.assertEqual(e(tree), text)
            self.assertEqual(reader.read_expression(text), tree)

    def test_literals(self):
        for tree, text in ((("int", -5), "~5"), (("int", -(2 ** 62)), "~4611686018427387904"), (("int", 0), "0"),
                           (("string", "a\"b\\"), "\"a\\\"b\\\\\""), (("string", ""), "\"\""),
                           (("string", "( ; )"), "\"( ; )\"")):
            self.assertEqual(printer.write_expression(tree), text)
            self.assertEqual(printer.write_pattern(tree), text)

    def test_blanks(self):
        for text in ("f (a, b)", "!(a b)", "!x", "ref (a b)", "f [] ()", "(a; b)", "!!x", "f !x", "A.b !A.c"):
            self.assertEqual(printer.write_expression(reader.read_expression(text)), text)
        self.assertEqual(printer.write_expression(reader.read_expression("! ! ( x )")), "!!x")
        self.assertEqual(printer.write_type(reader.read_type("( 'a , 'b ) A . t")), "('a, 'b) A.t")

    def test_declarations(self):
        for text in (
                "val x = 1", "val rec f = fn x => x end and g = fn _ when a => b | _ => c end", "type t = int",
                "type 'a t = 'a list", "type ('a, 'b) t = 'a * 'b", "datatype t = A", "exception E",
                "datatype 'a t = A | B of 'a -> 'a and ('a, 'b) u = C of int * int", "exception E of int list",
                "exception E = A.B.F", "structure S = struct end", "structure S = struct val x = 1 open A end",
                "open A.B", "signature S = sig end", "signature S = T", "structure S = F(A)", "structure S = F(F(A.B))",
                "structure S = A :> S", "structure S = A : S : T", "structure S = F(A :> S) : T",
                "functor F(X : S) = X", "functor F(X : sig end) = struct end :> S where type t = int",
                "signature S = sig val x : 'a type t type 'a t eqtype t eqtype ('a, 'b) t type t = int end",
                "signature S = sig datatype t = A of 'b exception E exception E of int structure S : T include S end",
                "signature S = T where type t = int where type ('a, 'b) A.t = 'a where type 'a ref = 'a"):
            self.assertEqual(printer.write_declaration(reader.read_declaration(text)), text)

    def test_units_stand_in_lines(self):
        text = "open A\nstructure S = struct open A open B end\nval x = 1"
        self.assertEqual(printer.write_unit(reader.read_unit(text)), text)
        self.assertEqual(printer.write_unit(()), "")
        self.assertEqual(printer.write_unit((("open", ("A",)),)), "open A")

    def test_the_examples(self):
        texts = ("raise (e handle _ => (a; (b; c)) end)", "(if a then b else c) handle x => !x := ~1 end")
        self.assertEqual([printer.write_expression(reader.read_expression(text)) for text in texts], [
            "raise e handle _ => (a; b; c) end", "(if a then b else c) handle x => !x := ~1 end"])

    def test_no_trees(self):
        for value in (*ODD, ("int", 2 ** 62), ("tuple", (("int", 1),))):
            for kind in KINDS:
                if judged(kind, value):
                    self.assertIsInstance(WRITERS[kind](value), str)
                    continue
                with self.assertRaises(InvalidTree):
                    WRITERS[kind](value)

    def test_deep_trees_are_written(self):
        tree = ("int", 1)
        for _ in range(59):
            tree = ("op", "+", (("int", 1), tree))
        text = printer.write_expression(tree)
        self.assertEqual(text, "1 + (" * 58 + "1 + 1" + ")" * 58)
        self.assertEqual(reader.read_expression(text), tree)
        tree = ("int", 1)
        for _ in range(59):
            tree = ("fn", ((("any",), None, tree),))
        self.assertEqual(printer.write_expression(tree), "fn _ => " * 59 + "1" + " end" * 59)
