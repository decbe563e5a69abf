"""[1.4] to [1.6] and part 1c: tokens, the grammar, and where a text is wrong."""

import random
import unittest

from letquay.errors import ParseError
from letquay.text import printer, reader
from letquay.text.tokens import tokens_of
from letquay.text.trees import is_expression
from tests.earley import STARTS, stuck_at
from tests.making import KINDS, Maker
from tests.odd import ODD

READERS = {kind: getattr(reader, f"read_{kind}") for kind in KINDS}
WRITERS = {kind: getattr(printer, f"write_{kind}") for kind in KINDS}
WORDS = (
    "-> * 'a ''b x A . unit ref ( ) , | as :: _ 3 ~4 \"s\" [ ] if then else raise handle end orelse andalso := = < ^ + "
    "- div mod ! text print read ; : fn case of while do let in rec when => and val type datatype exception structure "
    "open signature functor :> struct where sig eqtype include").split()


def name(x):
    return ("name", (x,))


A, B, C, X, Y = [name(letter) for letter in "abcxy"]


def spot_of(kind, text):
    """Where a text is wrong, or -1."""
    try:
        READERS[kind](text)
    except ParseError as error:
        return error.spot
    return -1


class TokensTest(unittest.TestCase):
    def reads(self, text, tree):
        self.assertEqual(reader.read_expression(text), tree, text)

    def wrong(self, text, spot, kind="expression"):
        self.assertEqual(spot_of(kind, text), spot, text)

    def test_numbers(self):
        for text, number in (("0", 0), ("7", 7), ("~7", -7), ("4611686018427387903", 2 ** 62 - 1),
                             ("~4611686018427387904", -(2 ** 62)), ("10", 10)):
            self.reads(text, ("int", number))
        for text in ("4611686018427387904", "~4611686018427387905", "~0", "00", "01", "~01", "1a", "1A", "a1",
                     "~", "~ 1", "~x", "~~1", "1x", "9" * 100, "~" + "9" * 100, "12345678901234567890123"):
            self.wrong(text, 0)
            self.wrong("f (" + text, 3)
        self.wrong("1_", 1)

    def test_names(self):
        self.reads("abcdefgh", name("abcdefgh"))
        self.reads("Abcdefgh", ("con", ("Abcdefgh",)))
        for text in ("abcdefghi", "Abcdefghi", "aB", "a1", "x1", "A1", "abcdefghijk"):
            self.wrong(text, 0)
            self.wrong(" \n" + text + " x", 2)

    def test_variables(self):
        self.assertEqual(reader.read_type("'a -> ''b"), ("fn", ("var", "a"), ("eqvar", "b")))
        for text in ("'", "''", "'''a", "' a", "'A", "'a1", "'val", "''unit", "'abcdefghi", "'1"):
            self.wrong(text, 0, "type")
            self.wrong("int * " + text, 6, "type")

    def test_strings(self):
        for text, inside in (("\"\"", ""), ("\"a b\"", "a b"), ("\"\\\"\"", "\""), ("\"\\\\\"", "\\"), ("\"~!\"", "~!"),
                             ("\"(* x *)\"", "(* x *)"), ("\"" + "x" * 1000 + "\"", "x" * 1000),
                             ("\"" + "\\\\" * 1000 + "\"", "\\" * 1000)):
            self.reads(text, ("string", inside))
        for text in ("\"", "\"a", "\"a\\", "\"a\\\"", "\"\\n\"", "\"\\a\"", "\"a\nb\"", "\"\\ \""):
            self.wrong(text, 0)
            self.wrong("f " + text, 2)
        self.reads("\"a\"\"b\"", ("call", ("string", "a"), ("string", "b")))

    def test_a_long_string_is_a_token_but_no_tree(self):
        for inside in ("x" * 1001, "\\\\" * 1001, "\\\"" * 5000):
            text = f"f \"{inside}\" x"
            self.wrong(text, len(text))
            self.wrong(text + " )", len(text) + 1)

    def test_no_token(self):
        for sign in "%&$#@?{}>/\\`":
            self.wrong(sign, 0)
            self.wrong("x " + sign, 2)
            self.wrong("(x" + sign, 2)
        self.wrong(")", 0)

    def test_what_is_wrong_first_is_told(self):
        self.wrong("x ) %", 2)
        self.wrong("x % )", 2)
        self.wrong("( ) ) \"", 4)
        self.wrong("val %", 0)

    def test_longest_tokens(self):
        self.reads("x:=y", ("op", ":=", (X, Y)))
        self.reads("x::y", ("call", ("con", ("Cons",)), ("tuple", (X, Y))))
        self.reads("fn x=>x end", ("fn", ((("name", "x"), None, X),)))
        self.assertEqual(reader.read_type("'a->'b"), ("fn", ("var", "a"), ("var", "b")))
        self.assertEqual(reader.read_structure("A:>S"), ("seal", ("at", ("A",)), ("named", "S")))
        self.assertEqual(reader.read_structure("A:S"), ("fit", ("at", ("A",)), ("named", "S")))
        self.wrong("fn x= >x end", 4)
        self.wrong("x: :y", 1)
        self.wrong("x:::y", 3)
        self.wrong("x - > y", 4)
        self.reads("x-y", ("op", "-", (X, Y)))
        self.reads("x-~1", ("op", "-", (X, ("int", -1))))
        self.reads("f!x", ("call", name("f"), ("op", "!", (X,))))

    def test_blanks_and_newlines(self):
        rng = random.Random(3)
        for kind in KINDS:
            for seed in range(40):
                tree = Maker(seed).any_tree(kind, seed % 4)
                pieces = self.pieces(WRITERS[kind](tree))
                spread = "".join(rng.choice(("", " ", "\n")) + " \n "[rng.randrange(3):] + piece for piece in pieces)
                self.assertEqual(READERS[kind](spread + "\n "), tree)
                self.assertEqual(READERS[kind](self.squeezed(pieces)), tree)

    @staticmethod
    def pieces(text):
        spots = [token[2] for token in tokens_of(text)]
        return [text[spots[k]:spots[k + 1]].strip(" \n") for k in range(len(spots) - 1)]

    @staticmethod
    def squeezed(pieces):
        """The pieces with no blank where they stay tokens without one."""
        text = ""
        for piece in pieces:
            close = [token[:2] for token in tokens_of(text + piece)[:-1]]
            apart = [token[:2] for token in tokens_of(text + " " + piece)[:-1]]
            text = text + piece if close == apart else text + " " + piece
        return text


class GrammarTest(unittest.TestCase):
    def test_types(self):
        for text, tree in (
                ("int", ("con", ("int",), ())), ("unit", ("tuple", ())), ("'a", ("var", "a")), ("''a", ("eqvar", "a")),
                ("ref", ("con", ("ref",), ())), ("A.B.t", ("con", ("A", "B", "t"), ())),
                ("'a list A.t ref", ("con", ("ref",), (("con", ("A", "t"), (("con", ("list",), (("var", "a"),)),)),))),
                ("('a, int) t", ("con", ("t",), (("var", "a"), ("con", ("int",), ())))),
                ("('a)", ("var", "a")), ("('a) t", ("con", ("t",), (("var", "a"),))),
                ("'a -> 'b -> 'c", ("fn", ("var", "a"), ("fn", ("var", "b"), ("var", "c")))),
                ("'a * 'b * 'c -> 'd", ("fn", ("tuple", (("var", "a"), ("var", "b"), ("var", "c"))), ("var", "d"))),
                ("'a * ('b * 'c)", ("tuple", (("var", "a"), ("tuple", (("var", "b"), ("var", "c"))))))):
            self.assertEqual(reader.read_type(text), tree, text)

    def test_patterns(self):
        x, y = ("name", "x"), ("name", "y")
        for text, tree in (
                ("_", ("any",)), ("x", x), ("3", ("int", 3)), ("~3", ("int", -3)), ("\"s\"", ("string", "s")),
                ("A.B", ("con", ("A", "B"), None)), ("A.B x", ("con", ("A", "B"), x)), ("[]", ("con", ("Nil",), None)),
                ("Nil", ("con", ("Nil",), None)), ("[ ]", ("con", ("Nil",), None)), ("()", ("tuple", ())), ("(x)", x),
                ("(x, y)", ("tuple", (x, y))), ("A B", ("con", ("A",), ("con", ("B",), None))),
                ("x :: y", ("con", ("Cons",), ("tuple", (x, y)))), ("x as y", ("as", "x", y)),
                ("x as y as _", ("as", "x", ("as", "y", ("any",)))), ("1 | 2 | 3",
                 ("or", ("int", 1), ("or", ("int", 2), ("int", 3)))), ("(1 | 2) | 3",
                 ("or", ("or", ("int", 1), ("int", 2)), ("int", 3))), ("x as _ :: []",
                 ("as", "x", ("con", ("Cons",), ("tuple", (("any",), ("con", ("Nil",), None)))))),
                ("x as 1 | x", ("or", ("as", "x", ("int", 1)), x))):
            self.assertEqual(reader.read_pattern(text), tree, text)

    def test_expressions(self):
        e = reader.read_expression
        for text, tree in (
                ("a + b - c", ("op", "-", (("op", "+", (A, B)), C))), ("a + b * c", ("op", "+", (A, ("op", "*", (B, C))))),
                ("a div b mod c", ("op", "mod", (("op", "div", (A, B)), C))), ("a b c", ("call", ("call", A, B), C)),
                ("a ^ b + c", ("op", "+", (("op", "^", (A, B)), C))), ("!a b", ("call", ("op", "!", (A,)), B)),
                ("!(a b)", ("op", "!", (("call", A, B),))), ("ref text print read a",
                 ("op", "ref", (("op", "text", (("op", "print", (("op", "read", (A,)),)),)),))),
                ("a orelse b orelse c", ("either", A, ("either", B, C))), ("a andalso b orelse c",
                 ("either", ("both", A, B), C)), ("a = b andalso c", ("both", ("op", "=", (A, B)), C)),
                ("a := b < c", ("op", ":=", (A, ("op", "<", (B, C))))), ("()", ("tuple", ())), ("(a)", A),
                ("(a, b)", ("tuple", (A, B))), ("(a; b; c)", ("then", A, ("then", B, C))),
                ("(a : int)", ("typed", A, ("con", ("int",), ()))), ("[]", ("con", ("Nil",))), ("A.B.c",
                 ("name", ("A", "B", "c"))), ("A.B", ("con", ("A", "B"))), ("A . b", ("name", ("A", "b"))),
                ("raise a handle _ => b end", ("raise", ("handle", A, ((("any",), None, B),)))),
                ("a handle _ => b end handle _ => c end",
                 ("handle", ("handle", A, ((("any",), None, B),)), ((("any",), None, C),))),
                ("if a then b else c orelse a", ("if", A, B, ("either", C, A))),
                ("while a do b end", ("while", A, B)), ("let x = a in b end", ("let", ("name", "x"), A, B)),
                ("case a of x when b => c | _ => a end", ("case", A, ((("name", "x"), B, C), (("any",), None, A)))),
                ("let rec f = fn _ => a end and g = fn _ => b end in c end", ("letrec",
                 (("f", ((("any",), None, A),)), ("g", ((("any",), None, B),))), C)),
                ("f fn _ => a end", ("call", name("f"), ("fn", ((("any",), None, A),)))),
                ("a :: b :: c", e("Cons (a, Cons (b, c))"))):
            self.assertEqual(e(text), tree, text)

    def test_what_stands_once(self):
        for text, spot in (("a = b = c", 6), ("a < b < c", 6), ("a := b := c", 7), ("a = b < c", 6)):
            self.assertEqual(spot_of("expression", text), spot)

    def test_declarations(self):
        for text, tree in (
                ("val x = a", ("val", ("name", "x"), A)), ("type t = int", ("type", (), "t", ("con", ("int",), ()))),
                ("type 'a t = 'a", ("type", ("a",), "t", ("var", "a"))),
                ("type ('a, 'b) t = 'a", ("type", ("a", "b"), "t", ("var", "a"))),
                ("val rec f = fn _ => a end", ("rec", (("f", ((("any",), None, A),)),))),
                ("datatype t = A | B of 'a and 'b u = C", ("data", (
                    ((), "t", (("A", None), ("B", ("var", "a")))), (("b",), "u", (("C", None),))))),
                ("exception E", ("exception", "E", None)), ("exception E of int",
                 ("exception", "E", ("con", ("int",), ()))), ("exception E = A.F", ("alias", "E", ("A", "F"))),
                ("structure S = T", ("structure", "S", ("at", ("T",)))), ("open A.B", ("open", ("A", "B"))),
                ("signature S = T", ("signature", "S", ("named", "T"))),
                ("functor F(X : S) = X.A", ("functor", "F", "X", ("named", "S"), ("at", ("X", "A"))))):
            self.assertEqual(reader.read_declaration(text), tree, text)

    def test_structures_and_signatures(self):
        at, named = ("at", ("A",)), ("named", "S")
        for text, tree in (
                ("A", at), ("struct end", ("struct", ())), ("F(A)", ("apply", "F", at)), ("F (F(A))",
                 ("apply", "F", ("apply", "F", at))), ("A :> S : S", ("fit", ("seal", at, named), named)),
                ("struct open A open A end", ("struct", (("open", ("A",)),) * 2))):
            self.assertEqual(reader.read_structure(text), tree, text)
        t = ("con", ("t",), ())
        for text, tree in (
                ("S", named), ("sig end", ("sig", ())), ("S where type t = t where type 'a ref = t",
                 ("where", ("where", named, ("t",), (), t), ("ref",), ("a",), t)),
                ("sig val x : t type t eqtype 'a t type ('a, 'b) t = t datatype t = A exception E exception E of t "
                 "structure S : S include S end", ("sig", (
                     ("val", "x", t), ("type", (), "t", False), ("type", ("a",), "t", True),
                     ("abbr", ("a", "b"), "t", t), ("data", (((), "t", (("A", None),)),)), ("exception", "E", None),
                     ("exception", "E", t), ("structure", "S", named), ("include", named))))):
            self.assertEqual(reader.read_signature(text), tree, text)
        self.assertEqual(reader.read_unit(""), ())
        self.assertEqual(reader.read_unit(" \n"), ())

    def test_more_parentheses_than_needed(self):
        for text, same in (("((a))", "a"), ("(a) ((b))", "a b"), ("((a * b)) + (c)", "a * b + c"), ("(!(a))", "!a"),
                           ("(if (a) then (b) else (c))", "if a then b else c"), ("(a :: (b :: c))", "a :: b :: c"),
                           ("fn (x as (_)) => ((x)) end", "fn x as _ => x end"), ("(a; (b; c))", "(a; b; c)"),
                           ("fn ((1) | ((2) | (3))) => a end", "fn 1 | 2 | 3 => a end")):
            self.assertEqual(reader.read_expression(text), reader.read_expression(same))
        self.assertEqual(reader.read_type("((('a) list) -> (int))"), reader.read_type("'a list -> int"))


class WrongTextsTest(unittest.TestCase):
    def test_no_text(self):
        for value in ODD:
            if isinstance(value, str):
                continue
            for kind in KINDS:
                with self.assertRaises(ParseError) as caught:
                    READERS[kind](value)
                self.assertIs(caught.exception.spot, None)

    def test_long_texts(self):
        for text, spot in (("a" * 100000, 0), (" " * 100000, 100000), ("f " * 50000, 100000), ("(" * 100000, 60),
                           ("f " * 49999 + ")", 99998), ("\"" + "x" * 99998 + "\"", 100000), ("1" * 100000, 0)):
            self.assertEqual(spot_of("expression", text), spot)

    def test_changed_texts_are_wrong_where_the_grammar_says(self):
        rng = random.Random(5)
        wrong = 0
        for seed in range(240):
            for kind in KINDS:
                text = WRITERS[kind](Maker(seed).any_tree(kind, seed % 4))
                pieces = TokensTest.pieces(text)
                if len(pieces) > 60:
                    continue
                for many in (0, 1, 2):
                    changed = " ".join(self.changed(rng, pieces, many))
                    tokens = tokens_of(changed)
                    stuck = stuck_at([token[0] for token in tokens[:-1]], STARTS[kind])
                    spot = spot_of(kind, changed)
                    if stuck is None:
                        self.assertIn(spot, (-1, len(changed)))
                    else:
                        wrong += 1
                        self.assertEqual(spot, tokens[stuck][2], changed)
        self.assertGreater(wrong, 1000)

    @staticmethod
    def changed(rng, pieces, many):
        pieces = list(pieces)
        for _ in range(many):
            at = rng.randrange(len(pieces) + 1)
            which = rng.random()
            if which < 0.4:
                pieces.insert(at, rng.choice(WORDS))
            elif which < 0.7:
                pieces[at:at + 1] = [rng.choice(WORDS)]
            else:
                del pieces[at:at + 1]
        return pieces

    def test_a_text_that_is_cut_off(self):
        text = "let rec f = fn x when a => (1, \"s\") end in if f then case [] of A => !b end else (a : int) end"
        for _, _, end in tokens_of(text)[1:-1]:
            self.assertEqual(spot_of("expression", text[:end]), end)
            self.assertEqual(spot_of("expression", text[:end].strip()), len(text[:end].strip()))

    def test_what_stands_behind_a_text(self):
        for kind, text in (("type", "int"), ("pattern", "x"), ("expression", "x"), ("declaration", "val x = a"),
                           ("structure", "A"), ("signature", "S"), ("unit", "open A")):
            for behind in (")", "end", "]", "then", "in"):
                self.assertEqual(spot_of(kind, f"{text} {behind} x"), len(text) + 1)
        self.assertEqual(spot_of("declaration", "open A open B"), 7)
        self.assertEqual(spot_of("structure", "A.b"), 2)
        self.assertEqual(spot_of("signature", "A.B"), 1)
        self.assertEqual(spot_of("type", "A.ref"), 2)
        self.assertEqual(spot_of("type", "A"), 1)
        self.assertEqual(spot_of("declaration", "exception E = x"), 14)

    def test_read_to_the_end_but_no_tree(self):
        for kind, text in (
                ("pattern", "(x, x)"), ("pattern", "x | y"), ("expression", "fn (x, x) => a end"),
                ("expression", "(a : 'a)"), ("expression", "let rec f = fn _ => a end and f = fn _ => a end in a end"),
                ("declaration", "exception E of 'a"), ("declaration", "type ('a, 'a) t = int"),
                ("declaration", "type ('a, 'b, 'c, 'd, 'e) t = int"), ("structure", "struct signature S = T end"),
                ("structure", "struct functor F(X : S) = X end"), ("declaration", "datatype " + " and ".join(["t = A"] * 7)),
                ("declaration", "datatype t = " + " | ".join(["A"] * 13)), ("unit", "open A " * 3001),
                ("expression", "f " + "x " * 60), ("expression", "(" + "1, " * 2999 + "1)")):
            self.assertEqual(spot_of(kind, text), len(text), text)
            self.assertEqual(spot_of(kind, text + " \n"), len(text) + 2)
        self.assertTrue(is_expression(reader.read_expression("f " + "x " * 59)))


OPEN = (
    # What opens one token, what stands behind it while it is open, and what closes it.
    ("expression", "(", "", ")"), ("expression", "fn _ =>", "x", "end"), ("expression", "fn _ when", "x", "=> x end"),
    ("expression", "case", "x", "of _ => x end"), ("expression", "case x of _ =>", "x", "end"),
    ("expression", "let _ =", "x", "in x end"), ("expression", "let _ = x in", "x", "end"),
    ("expression", "while", "x", "do x end"), ("expression", "while x do", "x", "end"),
    ("expression", "x handle _ =>", "x", "end"), ("expression", "if", "x", "then x else x"),
    ("expression", "if x then", "x", "else x"), ("expression", "if x then x else", "x", ""),
    ("expression", "raise", "x", ""), ("expression", "x ::", "x", ""), ("expression", "x orelse", "x", ""),
    ("expression", "x andalso", "x", ""), ("expression", "!", "", ""), ("expression", "ref", "", ""),
    ("expression", "text", "", ""), ("expression", "print", "", ""), ("expression", "read", "", ""),
)


class OpenTokensTest(unittest.TestCase):
    def around(self, many, text):
        return "(" * many + text + ")" * many

    def check(self, many, text, wrong, kind="expression"):
        """The text within so many parentheses is wrong at its first `?`, if it is to be."""
        whole = self.around(many, text)
        spot = whole.find("?") if wrong else -1
        self.assertEqual(spot_of(kind, whole.replace("?", "")), spot, whole)

    def test_the_sixtieth_and_the_sixty_first(self):
        for kind, opening, _, closing in OPEN:
            words = opening.split(" ")
            at = 1 if words[0] == "x" else 0
            words[at] = "?" + words[at]
            text = f"{' '.join(words)} x {closing}"
            self.check(59, text, False, kind)
            self.check(60, text, True, kind)

    def test_open_while_it_is_told(self):
        for kind, opening, _, closing in OPEN:
            self.check(59, f"{opening} ?(x) {closing}", True, kind)
            self.check(58, f"{opening} ?(x) {closing}", False, kind)
            self.check(58, f"{opening} (?(x)) {closing}", True, kind)

    def test_closed_behind(self):
        for kind, opening, _, closing in OPEN:
            self.check(59, f"{opening} x {closing}, (x)", False, kind)
            self.check(59, f"{opening} x {closing}, (?(x))", True, kind)

    def test_operands_are_closed_ahead_of_what_follows(self):
        self.check(59, "!x (y)", False)
        self.check(59, "!x ?(y)", False)
        self.check(59, "x :: y = (z)", False)
        self.check(59, "x :: y + ?(z)", True)
        self.check(59, "x orelse y handle _ => z end", False)
        self.check(59, "x andalso y orelse z", False)
        self.check(59, "x andalso y = ?(z)", True)
        self.check(59, "raise x ?handle _ => z end", True)
        self.check(58, "raise x ?handle _ => z end", False)
        self.check(59, "x handle _ => y end handle _ => z end", False)
        self.check(59, "x handle _ => y end handle _ => ?(z) end", True)
        self.check(59, "fn _ => x end (y) (z)", False)
        self.check(59, "x orelse y ?orelse z", True)
        self.check(58, "x orelse y ?orelse z", False)
        self.check(58, "x :: y :: ?(z)", True)

    def test_in_types(self):
        self.check(59, "int ?-> int", False, "type")
        self.check(60, "int ?-> int", True, "type")
        self.check(59, "int -> int ?-> int", True, "type")
        self.check(58, "int -> int ?-> int", False, "type")
        self.check(59, "int -> ?(int)", True, "type")
        self.check(59, "(int) -> int", False, "type")
        self.check(60, "int ref ref * ref", False, "type")
        self.check(59, "(int, int) t", False, "type")
        self.check(60, "?(int, int) t", True, "type")
        self.check(59, "(int, ?(int)) t", True, "type")

    def test_in_patterns(self):
        for sign in ("|", "::"):
            self.check(59, f"1 ?{sign} 2", False, "pattern")
            self.check(60, f"1 ?{sign} 2", True, "pattern")
            self.check(59, f"1 {sign} 2 ?{sign} 3", True, "pattern")
            self.check(59, f"1 {sign} ?(2)", True, "pattern")
            self.check(59, f"(1) {sign} 2", False, "pattern")
        self.check(59, "x ?as y", False, "pattern")
        self.check(60, "x ?as y", True, "pattern")
        self.check(59, "x as y ?as z", True, "pattern")
        self.check(59, "x as 1 ?:: 2", True, "pattern")
        self.check(58, "x as 1 | x as ?(2)", True, "pattern")

    def test_the_bar_of_rows_is_not_open(self):
        self.check(59, "fn 1 => x | 2 => x | 3 => x end", False)
        self.check(58, "fn 1 | 2 => (x) end", False)
        self.check(58, "fn 1 ?| 2 => (x) end", False)
        self.check(59, "fn 1 ?| 2 => x end", True)
        self.check(59, "x = []", False)

    def test_structures_and_signatures(self):
        for many, spot in ((59, -1), (60, 120)):
            text = "F(" * many + "struct end" + ")" * many
            self.assertEqual(spot_of("structure", text), spot)
            text = "structure S = struct " * many + "exception E" + " end" * many
            self.assertEqual(spot_of("declaration", text), len(text))
        text = "structure S = struct " * 61 + "exception E" + " end" * 61
        self.assertEqual(spot_of("declaration", text), len("structure S = struct ") * 60 + len("structure S = "))
        text = "sig structure S : " * 61 + "S" + " end" * 61
        self.assertEqual(spot_of("signature", text), len("sig structure S : ") * 60)
        text = "functor F(X : " + "sig structure S : " * 60 + "S" + " end" * 60 + ") = X"
        self.assertEqual(spot_of("declaration", text), text.find("sig") + len("sig structure S : ") * 59)
        text = "structure S = struct val x = " + "(" * 59 + "1" + ")" * 59 + " val y = " + "(" * 59 + "1" + ")" * 59 + " end"
        self.assertEqual(spot_of("declaration", text), -1)
        text = text.replace("y = (", "y = ((")
        self.assertEqual(spot_of("declaration", text), text.find("y =") + 4 + 59)
        text = "type " + "('a, 'b) t = " + "(" * 60 + "'a" + ")" * 60
        self.assertEqual(spot_of("declaration", text), -1)


class PlainReadersTest(unittest.TestCase):
    def test_each_reads_its_kind_alone(self):
        texts = {"type": "int -> int", "pattern": "_", "expression": "raise x", "declaration": "open A",
                 "structure": "struct end", "signature": "sig end", "unit": "open A open B"}
        for kind, text in texts.items():
            for other in KINDS:
                fits = kind == other or (kind, other) == ("declaration", "unit")
                self.assertEqual(spot_of(other, text) == -1, fits, (kind, other))

    def test_the_example(self):
        self.assertEqual(reader.read_pattern("A 3 :: _ | []"), (
            "or", ("con", ("Cons",), ("tuple", (("con", ("A",), ("int", 3)), ("any",)))), ("con", ("Nil",), None)))
