import unittest

from letquay.data.faces import Face, base_face
from letquay.data.looking import declared_group, type_of_tree
from letquay.errors import InvalidBook, InvalidFace, InvalidTree, Refused, TooMany
from letquay.infer.demanded import demands_of
from letquay.infer.expressions import Typing, is_final, typed
from letquay.infer.derivations import is_derivation
from letquay.text.printer import write_type
from letquay.text.reader import read_declaration, read_expression, read_type
from letquay.text.trees import is_expression
from letquay.types.books import Book
from letquay.types.schemes import Scheme
from letquay.types.solving import Solver
from letquay.types.terms import admits, is_type, renumbered, type_text
from tests.infer_tools import (
    BOOK, BOOL, EXN, FACE, INT, STRING, UNIT, fn, list_of, random_expressions, ref_of, second_demands, tuple_of, var)
from tests.odd import ODD
from tests.typing_tools import sized

FIRST = Book()
BASE = base_face()


def refusal(text, book=BOOK, face=FACE):
    """The reason why an expression with a text is refused."""
    try:
        typed(book, face, read_expression(text))
    except Refused as refused:
        return refused.reason
    return None


def told(text):
    """The told type of an expression."""
    return str(typed(BOOK, FACE, read_expression(text)))


def pairs(text):
    """The demands of an expression: places, and the types as texts."""
    return [(place, type_text(BOOK, T), type_text(BOOK, U))
            for word, place, T, U in demands_of(BOOK, FACE, read_expression(text))]


class LookingTest(unittest.TestCase):
    def test_wrong_names(self):
        for text, reason in (
                ("x", ("unbound", (), ("x",))), ("S.x", ("unbound", (), ("S", "x"))), ("No.id", ("unbound", (), ("No", "id"))),
                ("No", ("unbound", (), ("No",))), ("S.No", ("unbound", (), ("S", "No"))), ("S.Leaf", None), ("S.id", None),
                ("fn No => 1 end", ("unbound", (1, 0, 0), ("No",))), ("fn S.No x => 1 end", ("unbound", (1, 0, 0), ("S", "No"))),
                ("fn Leaf x => 1 end", ("arity", (1, 0, 0), ("Leaf",))), ("fn Node => 1 end", ("arity", (1, 0, 0), ("Node",))),
                ("fn Stop x => 1 end", ("arity", (1, 0, 0), ("Stop",))), ("fn Fail => 1 end", ("arity", (1, 0, 0), ("Fail",))),
                ("fn S.Fail => 1 end", ("arity", (1, 0, 0), ("S", "Fail"))), ("fn S.Fail x => 1 | Node _ => 2 end", None),
                ("(1 : no)", ("unbound", (2,), ("no",))), ("(1 : int -> (no, int) pair)", ("unbound", (2, 2, 2, 0), ("no",))),
                ("(1 : int list -> pair)", ("arity", (2, 2), ("pair",))), ("(1 : S.no)", ("unbound", (2,), ("S", "no"))),
                ("(x : no)", ("unbound", (1,), ("x",)))):
            found = refusal(text)
            self.assertEqual(found if reason is None and found and found[0] == "clash" else found, found if reason is None
                             else reason, text)
            if reason is not None:
                with self.assertRaises(Refused) as caught:
                    demands_of(BOOK, FACE, read_expression(text))
                self.assertEqual(caught.exception.reason, reason)

    def test_the_first_by_places(self):
        for text, place in (
                ("(a, b)", (1, 0)), ("let No = a in b end", (1,)), ("let x = a in b end", (2,)), ("let x = 1 in b end", (3,)),
                ("let rec f = fn No => a end in b end", (1, 0, 1, 0, 0)), ("let rec f = fn x => a end in b end", (1, 0, 1, 0, 2)),
                ("case a of No when b => c end", (1,)), ("case 1 of No when b => c end", (2, 0, 0)),
                ("case 1 of x when b => c end", (2, 0, 1)), ("case 1 of x when True => c end", (2, 0, 2)),
                ("case 1 of x => 1 | y => c end", (2, 1, 2)), ("a handle No => b end", (1,)), ("1 handle No => b end", (2, 0, 0)),
                ("fn (Leaf x, No) => 1 end", (1, 0, 0, 1, 0)), ("fn Leaf No => 1 end", (1, 0, 0)),
                ("fn Node No => 1 end", (1, 0, 0, 2)), ("fn No | Nope => 1 end", (1, 0, 0, 1)),
                ("if a then b else c", (1,)), ("1 + a", (2, 1)), ("while a do b end", (1,)), ("a b", (1,)), ("1 a", (2,)),
                ("((fn x => a end : no) : nope)", (1, 1, 1, 0, 2)), ("((1 : no) : nope)", (1, 2))):
            self.assertEqual(refusal(text)[1], place, text)

    def test_ahead_of_all_demands(self):
        for text in ("(1 2, a)", "let x = 1 1 in x x + a end", "(1 + \"a\" : no)", "fn x => (x x, Nope) end"):
            self.assertEqual(refusal(text)[0], "unbound")

    def test_local_names(self):
        for text, T in (
                ("fn id => id end 1", "int"), ("fn id => id 1 end", "(int -> 'a) -> 'a"), ("fn id => S.id id end", "'a -> 'a"),
                ("let one = \"a\" in one end", "string"), ("let x = 1 in let x = \"a\" in x end end", "string"),
                ("let x = 1 in let x = x + 1 in x end end", "int"), ("let x = 1 in (let x = \"a\" in x end, x) end", "string * int"),
                ("let rec one = fn x => one x end in one end", "'a -> 'b"), ("fn x => fn x => x end end", "'a -> 'b -> 'b"),
                ("case 1 of one when one < 2 => one end", "int"), ("fn x as (y, z) => (x, y, z) end", "'a * 'b -> ('a * 'b) * 'a * 'b"),
                ("let rec f = fn x => g x end and g = fn y => f y end in g end", "'a -> 'b")):
            self.assertEqual(told(text), T, text)
        self.assertEqual(refusal("let x = x in x end"), ("unbound", (2,), ("x",)))
        self.assertEqual(refusal("fn x => S.x end"), ("unbound", (1, 0, 2), ("S", "x")))
        self.assertEqual(refusal("(fn x => 1 end, x)"), ("unbound", (1, 1), ("x",)))
        self.assertEqual(refusal("case 1 of x => 1 | y => x end"), ("unbound", (2, 1, 2), ("x",)))

    def test_arguments(self):
        for call in (typed, demands_of):
            self.assertRaises(InvalidBook, call, None, None, None)
            self.assertRaises(InvalidFace, call, BOOK, None, None)
            self.assertRaises(InvalidFace, call, FIRST, FACE, None)
            for value in ODD:
                if not is_expression(value):
                    self.assertRaises(InvalidTree, call, BOOK, FACE, value)
        self.assertRaises(Refused, typed, FIRST, Face(), ("con", ("True",)))


class DemandsTest(unittest.TestCase):
    def test_each_row_of_the_table(self):
        for text, demands in (
                ("1", []), ("\"a\"", []), ("()", []), ("(1, \"a\")", []), ("Node", []), ("id", []),
                ("id 1", [((), "'a -> 'a", "int -> 'b")]), ("(id, duo 1)", [((1, 1), "'b -> 'c -> 'b * 'c", "int -> 'd")]),
                ("fn x => x end", [((1, 0, 0), "'a", "'c"), ((1, 0, 2), "'b", "'a")]),
                ("fn 1 => 2 | _ => 3 end", [((1, 0, 0), "'a", "int"), ((1, 0, 2), "'b", "int"), ((1, 1, 0), "int", "'c"),
                                            ((1, 1, 2), "int", "int")]),
                ("let x = 1 in x end", [((1,), "int", "'a")]),
                ("let (x, y) = (1, 2) in x end", [((1,), "int * int", "'a * 'b")]),
                ("let rec f = fn x => 1 end in f end", [((1, 0, 1, 0, 0), "'b", "'d"), ((1, 0, 1, 0, 2), "'c", "int"),
                                                      ((1, 0), "'a", "'b -> int")]),
                ("let rec f = fn x => g end and g = fn y => f end in 1 end", [
                    ((1, 0, 1, 0, 0), "'c", "'e"), ((1, 0, 1, 0, 2), "'d", "'b"), ((1, 0), "'a", "'c -> 'b"),
                    ((1, 1, 1, 0, 0), "'f", "'h"), ((1, 1, 1, 0, 2), "'g", "'c -> 'b"), ((1, 1), "'b", "'f -> 'c -> 'b")]),
                ("case 1 of x => 2 end", [((2, 0, 0), "int", "'b"), ((2, 0, 2), "'a", "int")]),
                ("case 1 of x when True => 2 end", [((2, 0, 0), "int", "'b"), ((2, 0, 1), "bool", "bool"), ((2, 0, 2), "'a", "int")]),
                ("if True then 1 else 2", [((1,), "bool", "bool"), ((3,), "int", "int")]),
                ("raise Stop", [((1,), "exn", "exn")]), ("(raise Div) handle _ => 1 end", [
                    ((1, 1), "exn", "exn"), ((2, 0, 0), "exn", "'b"), ((2, 0, 2), "'a", "int")]),
                ("(1; 2)", []), ("while True do 1 end", [((1,), "bool", "bool")]),
                ("True andalso False", [((1,), "bool", "bool"), ((2,), "bool", "bool")]),
                ("True orelse False", [((1,), "bool", "bool"), ((2,), "bool", "bool")]),
                ("(1 : int)", [((1,), "int", "int")]), ("([] : int list)", [((1,), "int list", "'a list")]),
                ("1 + 2", [((2, 0), "int", "int"), ((2, 1), "int", "int")]), ("text 1", [((2, 0), "int", "int")]),
                ("\"a\" ^ \"b\"", [((2, 0), "string", "string"), ((2, 1), "string", "string")]),
                ("1 < 2", [((2, 0), "int", "int"), ((2, 1), "int", "int")]), ("print \"a\"", [((2, 0), "string", "string")]),
                ("read ()", [((2, 0), "unit", "unit")]), ("1 div 2 mod 3", [
                    ((2, 0, 2, 0), "int", "int"), ((2, 0, 2, 1), "int", "int"), ((2, 0), "int", "int"), ((2, 1), "int", "int")]),
                ("[] = []", [((2, 0), "'a", "'b list"), ((2, 1), "'b list", "'c list")]),
                ("ref []", [((2, 0), "'a", "'b list")]), ("!(ref [])", [((2, 0, 2, 0), "'b", "'c list"), ((2, 0), "'a ref", "'c list ref")]),
                ("ref [] := []", [((2, 0, 2, 0), "'b", "'c list"), ((2, 0), "'a ref", "'c list ref"), ((2, 1), "'c list", "'d list")])):
            self.assertEqual(pairs(text), demands, text)

    def test_patterns(self):
        def pattern(text):
            return [(place[3:], T, U) for place, T, U in pairs(f"fn {text} => 1 end")[:-2] if place[:3] == (1, 0, 0)]
        for text, demands in (
                ("Leaf", []), ("Node x", [((2,), "'c tree * 'c * 'c tree", "'d")]), ("Pair (1, _)", [((2,), "'c * 'd ref", "int * 'e")]),
                ("Fail x", [((2,), "string", "'c")]), ("S.Fail _", [((2,), "string", "'c")]), ("x as Fail _", [((2, 2), "string", "'c")]),
                ("(x, 1) | (2, x)", [((2,), "'c * int", "int * 'd"), ((2,), "int", "int")]),
                ("(y, x) | (x, y)", [((2,), "'c * 'd", "'e * 'f"), ((2,), "'d", "'c"), ((2,), "'c", "'c")]),
                ("1 | 2", [((2,), "int", "int")])):
            self.assertEqual(pattern(text), demands, text)

    def test_variables_of_operations_are_made_ahead(self):
        for text, first in (("fn x => x = x end", ((1, 0, 2, 2, 0), "'d", "'a")), ("fn x => ref x end", ((1, 0, 2, 2, 0), "'d", "'a")),
                            ("fn x => !x end", ((1, 0, 2, 2, 0), "'d ref", "'a")),
                            ("fn x => x := x end", ((1, 0, 2, 2, 0), "'d ref", "'a")), ("(fn x => 1 end) = id", ((2, 0), "'a", "'b -> int"))):
            self.assertIn(first, pairs(text))

    def test_ends_with_the_first_refused_one(self):
        for text, reason in (
                ("1 2", ("clash", (), INT, fn(INT, var(0)))), ("(1 2, 3 4)", ("clash", (1, 0), INT, fn(INT, var(0)))),
                ("fn x => x x end", ("endless", (1, 0, 2), var(0), fn(var(0), var(1)))),
                ("fn (x, y) => (x y, y x) end", ("endless", (1, 0, 2, 1, 1), var(0), fn(fn(var(0), var(1)), var(2)))),
                ("id = id", ("unequal", (2, 0), fn(var(0), var(0)))), ("same shade", ("unequal", (), fn(("made", 7, ()), fn(
                    ("made", 7, ()), BOOL)))),
                ("Div = End", ("unequal", (2, 0), EXN)), ("fn x => (x = x, x 1) end", None),
                ("1 :: \"a\" :: []", ("clash", (2, 1, 1), None, None)),
                ("1 handle 2 => 3 end", ("clash", (2, 0, 0), EXN, INT)), ("case 1 of \"a\" => 2 end", ("clash", (2, 0, 0), INT, STRING)),
                ("case 1 of x when 1 => 2 end", ("clash", (2, 0, 1), BOOL, INT)), ("(1 : string)", ("clash", (1,), STRING, INT)),
                ("(fn x => x end : int -> string)", ("clash", (1,), fn(INT, STRING), fn(var(0), var(0)))),
                ("raise 1", ("clash", (1,), EXN, INT)), ("if 1 then 2 else 3", ("clash", (1,), BOOL, INT)),
                ("if True then 2 else \"a\"", ("clash", (3,), INT, STRING)), ("while 1 do 2 end", ("clash", (1,), BOOL, INT)),
                ("let 1 = \"a\" in 1 end", ("clash", (1,), STRING, INT)), ("fn (x, 1) | (\"a\", x) => x end", None)):
            if reason is None:
                self.assertIsNotNone(refusal(text))
                continue
            if reason[2] is not None:
                self.assertEqual(refusal(text), reason, text)
            found = demands_of(BOOK, FACE, read_expression(text))
            if reason[2] is not None:
                self.assertEqual(found[-1][1], reason[1])
            # All demands but the last one can be solved, and the types of the last one are those of the reason.
            solver = Solver(BOOK)
            for _ in range(40):
                solver.fresh()
            for demand in found[:-1]:
                solver.unite(*demand[1:])
            if reason[0] != "unequal":
                with self.assertRaises(Refused) as caught:
                    solver.unite(*found[-1][1:])
                self.assertEqual(caught.exception.reason, refusal(text))

    def test_against_a_second_typing(self):
        many = 0
        for tree in random_expressions(41, 1500, 4):
            wanted, T, reason = second_demands(BOOK, FACE, tree)
            self.assertEqual(demands_of(BOOK, FACE, tree), wanted, tree)
            if reason is None:
                many += 1
                found = typed(BOOK, FACE, tree)
                self.assertEqual(found.body, renumbered(BOOK, found.body))
                self.assertEqual(found.body, renumbered(BOOK, T))
                self.assertTrue(is_derivation(BOOK, FACE, tree, found.derivation))
                self.assertEqual(found, typed(BOOK, FACE, tree))
            else:
                with self.assertRaises(Refused) as caught:
                    typed(BOOK, FACE, tree)
                self.assertEqual(caught.exception.reason, reason)
        self.assertGreater(many, 200)


class FinalTest(unittest.TestCase):
    FINAL = ("1", "\"a\"", "x", "S.x", "fn x => x x end", "Nil", "Fail", "Cons x", "Fail \"a\"", "S.Fail (1, x)", "()", "(1, x)",
             "(fn x => x end : int)", "1 :: []", "Cons (Cons x)", "((1, []) : int)", "fn x => raise x end")
    OTHERS = ("f x", "ref 1", "!x", "1 + 2", "let x = 1 in x end", "let rec f = fn x => x end in f end", "case 1 of x => x end",
              "if True then 1 else 2", "raise Div", "1 handle x => x end", "(1; 2)", "while True do () end", "True andalso True",
              "True orelse True", "(1, f x)", "Cons (f x)", "(f x : int)", "(Cons : int) x", "read ()", "[] = []", "print \"a\"")

    def test_is_final(self):
        for text in self.FINAL:
            self.assertIs(is_final(read_expression(text)), True, text)
        for text in self.OTHERS:
            self.assertIs(is_final(read_expression(text)), False, text)
        for value in ODD:
            self.assertIs(is_final(value), is_expression(value))
        self.assertIs(is_final(("pattern",)), False)
        self.assertIs(is_final(["int", 1]), False)

    def test_only_final_ones_are_generalized(self):
        for e, final in (("fn x => x end", True), ("id", True), ("(fn x => x end : int -> int)", False), ("id id", False), ("(id; id)", False),
                         ("if True then id else id", False), ("let y = 1 in id end", False), ("!(ref id)", False)):
            text = "let f = " + e + " in (f 1, f \"a\") end"
            self.assertEqual(refusal(text) is None, final, text)
        self.assertIsNone(refusal("let (f, g) = (id, id) in (f 1, f \"a\", g 1, g ()) end"))
        self.assertIsNone(refusal("let x = [] in (1 :: x, \"a\" :: x) end"))
        self.assertIsNone(refusal("let x = Node (Leaf, [], Leaf) in case x of Node (_, y, _) => (1 :: y) | _ => [] end end"))
        self.assertIsNotNone(refusal("let x = ref [] in (x := 1 :: [], x := \"a\" :: []) end"))

    def test_generalization(self):
        # What a local name that can be seen has is not generalized.
        self.assertIsNotNone(refusal("fn x => let y = x in (y + 1, y ^ \"a\") end end"))
        self.assertIsNotNone(refusal("fn x => let f = fn z => x end in (f 1 + 1, f 1 ^ \"a\") end end"))
        self.assertEqual(told("fn x => let f = fn z => (x, z) end in (f 1, f \"a\") end end"), "'a -> ('a * int) * ('a * string)")
        self.assertIsNotNone(refusal("fn x => let x = x in (x + 1, x ^ \"a\") end end"))
        self.assertIsNotNone(refusal("case id id of f => let g = f in (g 1, g \"a\") end end"))
        # One name is generalized in a variable, and another one not.
        self.assertEqual(told("fn x => let (f, g) = (fn y => y end, fn y => x end) in (f 1, f \"a\", g 1, g \"a\") end end"),
                         "'a -> int * string * 'a * 'a")
        self.assertIsNotNone(refusal("let f = id in let h = id f in let (a, b) = (h, f) in (a 1, a \"a\") end end end"))
        self.assertIsNone(refusal("let f = id in let h = id f in let (a, b) = (h, f) in (a 1, b \"a\", b 1) end end end"))
        # letrec always generalizes, but not inside of its functions.
        self.assertEqual(told("let rec f = fn x => x end in (f 1, f \"a\") end"), "int * string")
        self.assertIsNotNone(refusal("let rec f = fn x => (f 1, f \"a\") end in f end"))
        self.assertIsNotNone(refusal("fn x => let rec f = fn y => x end in (f 1 + 1, f 1 ^ \"a\") end end"))
        self.assertIsNone(refusal("let rec f = fn x => g x end and g = fn y => y end in (f 1, g \"a\", f \"a\") end"))
        # A generalized name of a let around is no name that holds a variable.
        self.assertIsNone(refusal("let f = fn x => x end in let g = f in (g 1, g \"a\") end end"))

    def test_marks_are_kept(self):
        self.assertEqual(told("let f = fn x => x = x end in f end"), "''a -> bool")
        self.assertEqual(refusal("let f = fn x => x = x end in (f 1, f id) end")[0], "unequal")
        self.assertEqual(told("let rec f = fn x => same x x end in (f 1, f \"a\") end"), "bool * bool")
        self.assertEqual(refusal("let rec f = fn x => same x x end in f shade end")[0], "unequal")
        self.assertEqual(told("fn (x, y) => (x = x, y) end"), "''a * 'b -> bool * 'b")
        self.assertEqual(told("duo"), "'a -> ''b -> 'a * ''b")
        self.assertEqual(told("fn x => (same x, let f = fn y => (x, y) end in f end) end"), "''a -> (''a -> bool) * ('b -> ''a * 'b)")


class TypingTest(unittest.TestCase):
    def test_properties(self):
        found = typed(BOOK, FACE, read_expression("fn (x, y) => (x = x, y) end"))
        self.assertIsInstance(found, Typing)
        self.assertEqual((found.body, found.marked, found.names, str(found)), (
            fn(tuple_of(var(0), var(1)), tuple_of(BOOL, var(1))), (0,), {}, "''a * 'b -> bool * 'b"))
        self.assertEqual(found.scheme, Scheme(BOOK, (0,), found.body))
        self.assertEqual(found.derivation[1], found.marked)
        self.assertEqual(found.derivation[0][0], ((), found.body, ()))
        self.assertIs(typed(BOOK, FACE, read_expression("1 + 2")).scheme, None)
        self.assertEqual(typed(BOOK, FACE, read_expression("[]")).scheme.text(BOOK), "'a list")
        names = found.names
        names["x"] = 1
        self.assertEqual(found.names, {})
        for text in ("1", "fn x => x end"):
            other = typed(BOOK, FACE, read_expression(text))
            self.assertTrue(found != other and not found == other)
        self.assertFalse(found == 1 or found == None)  # noqa: E711
        same = read_expression("fn (x, y) => (x = x, y) end")
        self.assertEqual(found, typed(BOOK, FACE, same))
        # Equal derivations, but other rows.
        self.assertNotEqual(*[typed(BOOK, FACE, read_expression(t)) for t in ("fn 1 => 2 end", "fn 2 => 2 end")])
        with self.assertRaises(TypeError):
            iter(found)

    def test_cases(self):
        def cases(text):
            return [(place, type_text(BOOK, T), [guarded for _, guarded in rows])
                    for place, T, rows in typed(BOOK, FACE, read_expression(text)).cases]
        for text, found in (
                ("1", []), ("fn 1 => 2 | x when True => 3 end", [((), "int", [False, True])]),
                ("fn x => x end", [((), "'a", [False])]),
                ("let (x, _) = (1, \"a\") in x end", [((), "int * string", [False])]),
                ("let rec f = fn 1 => 2 end and g = fn \"a\" | \"b\" => 3 end in 1 end", [((1, 0), "int", [False]), ((1, 1), "string", [False])]),
                ("case [] of [] => 1 | _ :: _ when True => 2 end", [((), "'a list", [False, True])]),
                ("1 handle Div => 2 | Fail _ => 3 end", [((), "exn", [False, False])]),
                ("let x = fn 1 => 2 end in case x 1 of y => fn () => y end end end", [
                    ((), "int -> int", [False]), ((2,), "int", [False]), ((3,), "int", [False]), ((3, 2, 0, 2), "unit", [False])]),
                ("let rec f = fn 1 => let x = 2 in x end end in f end", [((1, 0), "int", [False]), ((1, 0, 1, 0, 2), "int", [False])])):
            self.assertEqual(cases(text), found, text)
        rows = typed(BOOK, FACE, read_expression("fn (x as 1, Leaf) when True => 2 end")).cases[0][2]
        self.assertEqual(rows, ((("tuple", (("as", "x", ("int", 1)), ("con", ("Leaf",), None))), True),))

    def test_types_of_cases_have_the_variables_of_the_derivation(self):
        tree = read_expression("fn x => fn y => (y, x) end end")
        found = typed(BOOK, FACE, tree)
        self.assertEqual([T for _, T, _ in found.cases], [var(0), var(1)])
        rows = dict((place, T) for place, T, _ in found.derivation[0])
        self.assertEqual(rows[(1, 0, 2, 1, 0, 0)], var(1))

    def test_annotations(self):
        """An annotation is accepted exactly if it is an instance of the most general type."""
        texts = ("int -> int", "int -> string", "(int -> int) -> int -> int", "int", "int list", "dark -> bool", "int -> bool",
                 "(int -> int) -> bool", "int list -> bool", "exn -> bool", "int ref -> bool", "(int -> int) ref -> bool",
                 "int tree -> bool", "(int -> int, int) pair -> bool", "(int, dark) pair -> bool", "int light -> bool", "dark light -> bool")
        types = [read_type(text) for text in texts]
        for e in ("fn x => x end", "fn x => x = x end", "id", "[]", "fn f => fn x => f x end end", "same", "id id", "fn x => 1 end",
                  "fn x => raise x end", "fn _ => True end"):
            tree = read_expression(e)
            found = typed(BOOK, FACE, tree)
            scheme = Scheme.of(BOOK, found.body, marked=found.marked)
            for T in types:
                wanted = scheme.covers(BOOK, Scheme.of(BOOK, type_of_tree(BOOK, FACE, T)))
                try:
                    self.assertEqual(typed(BOOK, FACE, ("typed", tree, T)).body, type_of_tree(BOOK, FACE, T))
                    self.assertTrue(wanted, (e, write_type(T)))
                except Refused:
                    self.assertFalse(wanted, (e, write_type(T)))

    def test_let_of_final_expressions(self):
        """`let x = e in b` is accepted exactly if b with e in the place of x is, where e is final."""
        bodies = ("(x 1, x \"a\")", "x x", "x 1 + 1", "1 :: x", "(1 :: x, \"a\" :: x)", "x = x", "fn z => x end", "(x shade, x 1)",
                  "(x ; x)", "x (x 1)", "!x", "case x of (a, b) => (a 1, b 2) end")
        for e in ("fn z => z end", "id", "[]", "same", "1", "(id, same)", "fn z => z = z end", "Cons", "(fn z => z + 1 end : int -> int)"):
            for body in bodies:
                tree = ("let", ("name", "x"), read_expression(e), read_expression(body))
                self.assertEqual(self.is_accepted(tree), self.is_accepted(put_in(tree[3], tree[2])), (e, body))
        # This is false for others: e is done once.
        self.assertFalse(self.is_accepted(read_expression("let x = ref [] in (1 :: !x, \"a\" :: !x) end")))
        self.assertTrue(self.is_accepted(read_expression("(1 :: !(ref []), \"a\" :: !(ref []))")))

    @staticmethod
    def is_accepted(tree):
        try:
            typed(BOOK, FACE, tree)
        except Refused:
            return False
        return True


def put_in(tree, e):
    """An expression with e in the place of x."""
    if tree == ("name", ("x",)):
        return e
    return tuple(put_in(part, e) for part in tree) if isinstance(tree, tuple) else tree


class SizesTest(unittest.TestCase):
    """Types of the size 300 are let; greater ones are told as `TooMany(300)` where they are first."""

    def setUp(self):
        self.book, more = declared_group(BOOK, FACE, read_declaration("datatype 'a box = Box of 'a * 'a * 'a")[1])
        self.box = more.types["box"][1][1]
        self.face = FACE.opened(more)

    def with_value(self, name, T):
        self.assertTrue(is_type(self.book, T))
        return self.face.with_value(name, Scheme(self.book, (), T))

    def end(self, face, tree):
        """The word of what comes of an expression, the same for typings and demands."""
        found = []
        for call in (typed, demands_of):
            try:
                call(self.book, face, tree if isinstance(tree, tuple) else read_expression(tree))
                found.append("good")
            except TooMany as many:
                self.assertEqual(many.limit, 300)
                found.append("many")
            except Refused as refused:
                found.append(refused.reason[0])
        if found[0] not in ("many", "unbound"):
            self.assertEqual(found[1], "good")
        else:
            self.assertEqual(*found)
        return found[0]

    def test_behind_a_node(self):
        ints = [("tuple", (("int", 1),) * many) for many in (299, 300)]
        wrong = ("call", ("int", 1), ("int", 2))
        self.assertEqual([self.end(FACE, tree) for tree in ints], ["good", "many"])
        self.assertEqual([self.end(FACE, ("then", tree, wrong)) for tree in ints], ["clash", "many"])
        self.assertEqual([self.end(FACE, ("then", wrong, tree)) for tree in ints], ["clash", "clash"])
        pattern = [("fn", ((("tuple", (("any",),) * many), None, ("int", 1)),)) for many in (297, 298, 299, 300)]
        self.assertEqual([self.end(FACE, tree) for tree in pattern], ["good", "many", "many", "many"])

    def test_behind_a_demand(self):
        for size, end in ((149, "good"), (150, "many")):
            face = self.with_value("big", sized(size))
            self.assertEqual(self.end(face, "id big"), end)
            self.assertEqual(self.end(face, "(id big; 1 2)"), "clash" if end == "good" else end)
        # The told types of a refused demand are too great.
        for size, end in ((298, "clash"), (299, "many")):
            face = self.with_value("big", sized(size))
            self.assertEqual(self.end(face, "1 big"), end)
            self.assertEqual(self.end(face, "(1 2, 1 big)"), "clash")

    def test_behind_a_let(self):
        for size, end in ((99, "good"), (100, "many")):
            face = self.with_value("big", ("made", self.box, (sized(size),)))
            self.assertEqual(self.end(face, "let Box x = big in 1 end"), end)
            self.assertEqual(self.end(face, "let Box x = big in 1 2 end"), "clash" if end == "good" else end)
            # A name of a row has no demand of its own: its type is in the derivation alone.
            self.assertEqual(self.end(face, "case big of Box x => 1 end"), end)
            self.assertEqual(self.end(face, "case big of Box x => 1 2 end"), "clash")
            self.assertEqual(self.end(face, "case big of Box _ => 1 end"), end)
            self.assertEqual(self.end(face, "case big of Box x => (x; 1 2) end"), "clash" if end == "good" else end)

    def test_of_letrec(self):
        for size, end in ((298, "good"), (299, "many")):
            face = self.with_value("big", sized(size))
            self.assertEqual(self.end(face, "let rec f = fn x => big end in 1 end"), end)

    def test_of_annotations(self):
        wide = [("tuple", (read_type("int"),) * many) for many in (299, 300)]
        self.assertEqual(self.end(FACE, ("typed", ("raise", ("con", ("Stop",))), wide[0])), "good")
        self.assertEqual(self.end(FACE, ("typed", ("raise", ("con", ("Stop",))), wide[1])), "many")
        # Names are looked up by places: what is wrong ahead is told ahead.
        self.assertEqual(self.end(FACE, ("typed", ("name", ("no",)), wide[1])), "unbound")
        self.assertEqual(self.end(FACE, ("tuple", (("typed", ("int", 1), wide[1]), ("name", ("no",))))), "many")
        self.assertEqual(self.end(FACE, ("tuple", (("call", ("int", 1), ("int", 1)), ("typed", ("int", 1), wide[1])))), "many")

    def test_refused_calls_change_nothing(self):
        before = len(BOOK), list(FACE)
        self.assertEqual(self.end(FACE, "1 2"), "clash")
        self.assertEqual((len(BOOK), list(FACE)), before)
        self.assertTrue(admits(BOOK, list_of(ref_of(UNIT))))


if __name__ == "__main__":
    unittest.main()
