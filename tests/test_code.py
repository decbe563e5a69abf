"""Code: promises [9.3] to [9.6], parts 9b and 9c."""

import random
import unittest

from letquay.code.blocks import Code
from letquay.code.core import core_nodes
from letquay.code.judge import heights, is_sound, known_slots
from letquay.code.making import compiled
from letquay.errors import InvalidCode, InvalidNumber, InvalidOperation, InvalidTree
from letquay.machine.runs import Machine
from letquay.modules.flatten import flattened
from tests.code_tools import changed_blocks, judged
from tests.odd import ODD
from tests.program_tools import program, random_text

X, E = ("value", "x"), ("exception", "E")
IDLE = Code(((0, 0, (("closure", 1, 0), ("int", 4), ("tail",))), (0, 1, (("slot", 0), ("int", 1), ("op", "+"), ("return",)))))

# Each instruction in its right forms, and values near them.
FORMS = {
    "int": ([(0,), (2 ** 62 - 1,), (-(2 ** 62),)], [(2 ** 62,), (True,), (None,), ("1",)]),
    "string": ([("",), ("a" * 10000,)], [("a" * 10001,), ("\n",), (1,)]),
    "slot": ([(0,), (10 ** 50,)], [(-1,), (True,), (None,)]), "set": ([(3,)], [(-1,), (False,)]), "drop": ([()], [(0,)]),
    "free": ([(0,)], [(True,), (-2,)]), "global": ([("U",)], [("u",), (1,), (["U"],)]),
    "tuple": ([(0,), (2,), (9,)], [(1,), (True,), (-1,)]), "part": ([(0,), (7,)], [(-1,), (True,)]),
    "con": ([("C", True), ("C", False)], [("c", True), ("C", 1), ("C", None), ("C", 0)]), "carried": ([()], [(1,)]),
    "table": ([((),), ((E, X),)], [((X, E),), ((X, X),), ([X],), (X,)]), "field": ([(X,)], [("x",), (("value", "X"),)]),
    "exception": ([("E",)], [("e",), (None,)]), "reserved": ([("Div",), ("End",)], [("E",), (["Div"],)]),
    "packet": ([(True,), (False,)], [(0,), (1,), (None,)]), "closure": ([(0, 0), (5, 2)], [(True, 0), (0, -1), (0,)]),
    "group": ([(((1, 0),),), (((1, 0), (0, 5)),)], [((),), (((1, True),),), (((1,),),), ([(1, 0)],), (1,)]),
    "op": ([("+",), (":=",), ("read",)], [("?",), (["+"],), (1,)]), "jump": ([(0,), (99,)], [(True,), (-1,)]),
    "unless": ([(0,)], [(None,)]), "differs": (
        [("int", 1, 0), ("string", "a", 0), ("con", "C", 0)],
        [("int", True, 0), ("int", "1", 0), ("string", 1, 0), ("con", "c", 0), ("con", None, 0), ("bool", 1, 0), ("int", 1, True), (["int"], 1, 0)]),
    "strange": ([(0,)], [(False,)]), "call": ([()], [(1,)]), "tail": ([()], [(1,)]), "return": ([()], [(1,)]),
    "raise": ([()], [(1,)]), "handle": ([(0,)], [(-1,), (True,)]), "unhandle": ([()], [(0,)]),
}


def sound(*instructions, slots=0, more=(), uses=()):
    return is_sound(Code(((0, slots, instructions), *more), uses))


ONE, END = ("int", 1), ("return",)


class FormsTest(unittest.TestCase):
    def test_instructions(self):
        self.assertEqual(len(FORMS), 29)
        for word, (right, wrong) in FORMS.items():
            for parts in right:
                code = Code(((0, 0, ((word, *parts),)),))
                self.assertEqual(code.at(0, 0), (word, *parts))
            for parts in (*wrong, *[(*parts, 0) for parts in right], *[parts[:-1] for parts in right if parts]):
                self.assertRaises(InvalidCode, Code, ((0, 0, ((word, *parts),)),))
        for wrong in (("nothing",), (), None, ["int", 1], ("typed", 1), (["int"], 1)):
            self.assertRaises(InvalidCode, Code, ((0, 0, (wrong,)),))

    def test_blocks(self):
        rows = (END,)
        for blocks in ((), ((0, 0, ()),), ((1, 0, rows),), ((0, 0, rows), (0, 0, rows)), ((True, 0, rows),), ((0, False, rows),),
                       ((0, 0, [END]),), ((0, -1, rows),), ((0, 0, rows, 0),), [(0, 0, rows)], ((0, 0, rows), (-1, 1, rows)),
                       ((0, 100001, rows),), ((0, 0, rows), (100001, 1, rows)), ((0, 0, rows),) + ((0, 1, rows),) * 20001):
            self.assertRaises(InvalidCode, Code, blocks)
        for odd in ODD:
            self.assertRaises(InvalidCode, Code, odd)
            if odd != ():
                self.assertRaises(InvalidCode, Code, ((0, 0, rows),), odd) if odd not in (("X",), ("Nope",)) else None
        self.assertEqual(len(Code(((0, 0, rows), *((100000, 100000, rows),) * 20000))), 20001)
        self.assertRaises(InvalidCode, Code, ((0, 0, rows * 4000201),))
        for uses in (("b",), ("B", "A"), ("A", "A"), ["A"], ("A", 1)):
            self.assertRaises(InvalidCode, Code, ((0, 0, rows),), uses)

    def test_what_code_tells(self):
        self.assertEqual((IDLE.size, len(IDLE), str(IDLE), IDLE.uses), (7, 2, "code of 2 blocks, 7 instructions", ()))
        self.assertEqual((IDLE.at(1, 2), IDLE.blocks[0][0]), (("op", "+"), 0))
        for wrong in (-1, 2, True, None, "0", 10 ** 70):
            with self.assertRaises(InvalidNumber) as caught:
                IDLE.at(wrong, 99)
            self.assertIs(caught.exception.given, wrong)
        for wrong in (-1, 4, True, None):
            self.assertRaises(InvalidNumber, IDLE.at, 1, wrong)
        self.assertTrue(IDLE == Code(IDLE.blocks))
        self.assertTrue(IDLE != Code(IDLE.blocks, ("U",)))
        for odd in ODD:
            self.assertFalse(IDLE == odd)
        with self.assertRaises(TypeError):
            iter(IDLE)


class SoundTest(unittest.TestCase):
    def test_heights(self):
        for rows, wanted in (
                ((ONE, END), True), ((END,), False), ((ONE,), False), ((ONE, ONE, END), False), ((ONE, ("drop",), END), False),
                ((ONE, ONE, ("tuple", 2), END), True), ((ONE, ("tuple", 2), END), False), ((("tuple", 0), END), True),
                ((ONE, ("con", "C", True), END), True), ((("con", "C", True), END), False), ((("con", "C", False), END), True),
                ((ONE, ("part", 0), END), True), ((("part", 0), END), False), ((ONE, ONE, ("table", (E, X)), END), True),
                ((ONE, ("table", (E, X)), END), False), ((("reserved", "Div"), ("packet", False), ("raise",)), True),
                ((("reserved", "Div"), ("packet", True), ("raise",)), False), ((ONE, ("raise",), END), True), ((("raise",),), False),
                ((ONE, ONE, ("raise",)), True), ((ONE, ONE, ("tail",)), True), ((ONE, ("tail",)), False), ((ONE, ONE, ONE, ("tail",)), False),
                ((ONE, ONE, ("call",), END), True), ((ONE, ("call",), END), False), ((ONE, ONE, ("strange", 3), ONE, END), True),
                ((ONE, ("strange", 2), END), False), ((ONE, ("op", "!"), END), True), ((ONE, ("op", "+"), END), False)):
            self.assertEqual(sound(*rows), wanted, rows)

    def test_ways_that_come_together(self):
        for rows, wanted in (
                ((ONE, ("unless", 4), ONE, ("jump", 5), ONE, END), True), ((ONE, ("unless", 4), ONE, ("jump", 5), ("jump", 5), END), False),
                ((("jump", 1), ONE, END), True), ((("jump", 0),), True), ((("jump", 1),), False), ((ONE, ("jump", 0)), False),
                ((ONE, ("unless", 9), ONE, END), False), ((ONE, ("differs", "int", 1, 2), ONE, END), True),
                ((("handle", 3), ("unhandle",), ONE, END), True), ((("handle", 3), ("unhandle",), ("jump", 3), END), False),
                ((("handle", 2), ("jump", 2), END), False), ((ONE, ("unless", 3), ("handle", 5), ONE, END, END), False)):
            self.assertEqual(sound(*rows), wanted, rows)

    def test_handlers(self):
        for rows, wanted in (
                ((("handle", 4), ONE, ("unhandle",), END, END), True), ((("handle", 3), ONE, END, END), False),
                ((("unhandle",), ONE, END), False), ((ONE, ("handle", 3), ("drop",), ("drop",), END), False),
                ((ONE, ("handle", 5), ("unhandle",), ("drop",), ("jump", 7), ("drop",), ("drop",), ONE, END), True),
                ((("handle", 5), ("handle", 4), ("unhandle",), ("unhandle",), END, END), False),
                ((("handle", 6), ("handle", 6), ("unhandle",), ("unhandle",), ONE, END, END), False),
                ((("handle", 7), ("handle", 8), ("unhandle",), ("unhandle",), ONE, END, END, END, ("unhandle",), END), True),
                ((("handle", 4), ONE, ONE, ("tail",), END), False), ((("handle", 3), ONE, ("raise",), END), True)):
            self.assertEqual(sound(*rows), wanted, rows)

    def test_slots(self):
        for rows, wanted in (
                ((("slot", 0), END), False), ((ONE, ("set", 0), ("slot", 0), END), True), ((ONE, ("set", 2), ONE, END), False),
                ((ONE, ("unless", 4), ONE, ("set", 0), ("slot", 0), END), False),
                ((ONE, ("unless", 5), ONE, ("set", 0), ("jump", 7), ONE, ("set", 0), ("slot", 0), END), True),
                ((("handle", 5), ONE, ("set", 0), ("unhandle",), ("jump", 6), ("set", 1), ("slot", 0), END), False),
                ((("handle", 5), ONE, ("set", 0), ("unhandle",), ("jump", 6), ("set", 0), ("slot", 0), END), True),
                ((ONE, ("set", 0), ("slot", 0), ("unless", 6), ("slot", 0), ("drop",), ONE, END), True),
                ((("jump", 3), ("slot", 0), END, ONE, ("set", 0), ("jump", 1)), True)):
            self.assertEqual(sound(*rows, slots=2), wanted, rows)
        self.assertTrue(is_sound(Code(((0, 0, (ONE, END)), (0, 1, (("slot", 0), END))))))
        self.assertFalse(is_sound(Code(((0, 1, (("slot", 0), END)),))))
        self.assertFalse(is_sound(Code(((0, 0, (ONE, END)), (0, 2, (("slot", 1), END))))))
        self.assertFalse(is_sound(Code(((0, 0, (ONE, END)), (0, 1, (("slot", 1), END))))))

    def test_what_is_named(self):
        function = (0, 1, (("slot", 0), END))
        holding = (2, 1, (("free", 1), END))
        for rows, more, uses, wanted in (
                ((("global", "U"), END), (), ("U",), True), ((("global", "U"), END), (), (), False), ((("global", "U"), END), (), ("V",), False),
                ((("free", 0), END), (), (), False), ((("closure", 1, 0), END), (function,), (), True),
                ((("closure", 2, 0), END), (function,), (), False), ((("closure", 0, 0), END), (function,), (), False),
                ((ONE, ("closure", 1, 1), END), (function,), (), False), ((ONE, ONE, ("closure", 1, 2), END), (holding,), (), True),
                ((ONE, ("closure", 1, 1), END), (holding,), (), False), ((ONE, ("closure", 1, 2), END), (holding,), (), False),
                ((ONE, ("group", ((1, 1),)), END), (holding,), (), True), ((ONE, ONE, ("group", ((1, 2),)), END), (holding,), (), False),
                ((("group", ((1, 0), (1, 0))), ("drop",), END), (holding,), (), True),
                ((("group", ((1, 0), (0, 0))), ("drop",), END), (holding,), (), False),
                ((("group", ((1, 0), (1, 0))), END), (holding,), (), False),
                ((ONE, END), ((1, 1, (("free", 1), END)),), (), False), ((ONE, END), ((1, 1, (("free", 0), END)),), (), True)):
            self.assertEqual(sound(*rows, more=more, uses=uses), wanted, (rows, more))

    def test_parts_to_which_no_way_leads(self):
        self.assertTrue(sound(ONE, END, END, ("slot", 9), ("jump", 99), ("closure", 0, 7), ("global", "U"), ("unhandle",)))
        self.assertEqual(heights(Code(((0, 0, (("jump", 2), ("drop",), ONE, END, END)),))), ((0, None, 0, 1, None),))
        self.assertFalse(sound(ONE, END, more=((0, 1, (END,)),)))

    def test_what_the_judge_tells(self):
        self.assertEqual(heights(IDLE), ((0, 1, 2), (0, 1, 2, 1)))
        code = Code(((0, 3, (ONE, ("set", 1), ONE, ("unless", 6), ONE, ("set", 2), ("slot", 1), END, END)), (0, 2, (("slot", 0), END))))
        self.assertEqual(heights(code)[0], (0, 1, 0, 1, 0, 1, 0, 1, None))
        self.assertEqual([known_slots(code, 0, k) for k in (0, 2, 5, 6, 7)], [(), (1,), (1,), (1,), (1,)])
        self.assertEqual(known_slots(code, 1, 1), (0,))
        self.assertRaises(InvalidOperation, known_slots, code, 0, 8)
        for wrong in (-1, 2, True, None):
            self.assertRaises(InvalidNumber, known_slots, code, wrong, wrong)
        for wrong in (-1, 9, True, "0"):
            with self.assertRaises(InvalidNumber) as caught:
                known_slots(code, 0, wrong)
            self.assertIs(caught.exception.given, wrong)
        bad = Code(((0, 0, (END,)),))
        self.assertRaises(InvalidCode, heights, bad)
        self.assertRaises(InvalidCode, known_slots, bad, 9, 9)
        for odd in ODD:
            for call in (is_sound, heights, lambda value: known_slots(value, 0, 0)):
                self.assertRaises(InvalidCode, call, odd)

    def test_against_a_second_judge(self):
        rng = random.Random(3)
        bases = [compiled(flattened(program(text))).blocks for text in (
            "val x = 1 + 2", "val x = (case (1, 2) of (1, y) => y | (x, _) => x end) handle Div => 3 | Match => 4 end",
            "val rec f = fn 0 => 1 | n => g (n - 1) end and g = fn x => f x end val h = fn x => fn y => (x, y, f) end end",
            "exception E of int val x = fn E (1 | 2) => 1 | E n when n < 2 => n | _ => 2 end")]
        counts = {True: 0, False: 0}
        for _ in range(2500):
            code = Code(changed_blocks(rng, rng.choice(bases)), ("U",))
            wanted = judged(code)
            self.assertEqual(is_sound(code), wanted is not None, code.blocks)
            counts[wanted is not None] += 1
            if wanted is not None:
                found = heights(code)
                for b, block in enumerate(code.blocks):
                    for at in range(len(block[2])):
                        state = wanted.get((b, at))
                        self.assertEqual(found[b][at], None if state is None else state[0])
                b, at = rng.choice(sorted(wanted))
                self.assertEqual(known_slots(code, b, at), tuple(sorted(wanted[b, at][2])))
        self.assertGreater(min(counts.values()), 200)


NX = ("name", X)
ANY = ("any",)
FN = ("name", ("structure", "U"))


class CompiledTest(unittest.TestCase):
    """[9.6]."""

    def check(self, core, uses=()):
        code = compiled(core, uses=uses)
        self.assertTrue(is_sound(code))
        self.assertLessEqual(code.size, 200 * (core_nodes(core) + 1))
        self.assertEqual(code.uses, uses)
        return code

    def calls(self, core):
        """How many tails and calls the code of a term has."""
        code = self.check(core, ("U",))
        words = [row[0] for block in code.blocks for row in block[2]]
        return words.count("tail"), words.count("call")

    def test_tail_places(self):
        call = ("call", FN, ("int", 1))
        row = (ANY, None, call)
        plain = (ANY, None, ("int", 1))
        one = ("int", 1)
        for core, wanted in (
                (call, (1, 0)), (("fn", (row,)), (1, 0)), (("case", one, (row, row)), (2, 0)), (("case", call, (plain,)), (0, 1)),
                (("handle", one, (row,)), (1, 0)), (("handle", call, (row,)), (1, 1)), (("if", call, call, call), (2, 1)),
                (("let", ((ANY, call),), call), (1, 1)), (("then", call, call), (1, 1)), (("both", call, call), (1, 1)),
                (("either", call, call), (1, 1)), (("while", call, call), (0, 2)), (("tuple", (call, call)), (0, 2)),
                (("call", call, call), (1, 2)), (("raise", call), (0, 1)), (("op", "+", (call, call)), (0, 2)), (("con", "C", call), (0, 1)),
                (("field", call, X), (0, 1)), (("table", ((X, call),)), (0, 1)), (("packet", call, call), (0, 2)),
                (("case", one, ((ANY, call, call),)), (1, 1)), (("fn", ((ANY, call, call),)), (1, 1)),
                (("let", ((None, ((("value", "f"), (row,)),)),), call), (2, 0)), (("case", one, ((ANY, None, ("if", one, call, one)),)), (1, 0)),
                (("then", ("case", one, (row,)), one), (0, 1)), (("then", ("handle", one, (row,)), one), (0, 1)),
                (("handle", ("if", one, call, call), (plain,)), (0, 2)), (("tuple", (("fn", (row,)), ("fn", (row,)))), (2, 0))):
            self.assertEqual(self.calls(core), wanted, core)

    def test_deep_and_great_terms(self):
        def nested(n, make, term=("int", 1)):
            for _ in range(n):
                term = make(term)
            return term
        for make in (lambda t: ("raise", t), lambda t: ("fn", ((ANY, None, t),)), lambda t: ("then", ("int", 1), t), lambda t: ("then", t, t[:0] or ("int", 1)),
                     lambda t: ("let", ((("name", X), t),), NX), lambda t: ("handle", t, ((ANY, None, ("int", 1)),)),
                     lambda t: ("case", ("int", 1), ((("name", X), NX, t), (ANY, None, NX) if False else (ANY, None, ("int", 2)))),
                     lambda t: ("let", ((None, ((("value", "f"), ((ANY, None, t),)),)),), ("name", ("value", "f")))):
            self.check(nested(159, make))
        self.check(("tuple", (("int", 1),) * 19999))
        names = [("value", "ab" + "".join("abcdefghij"[n // 10 ** k % 10] for k in range(4))) for n in range(6000)]
        self.check(("let", tuple((("name", key), ("int", 1)) for key in names), ("name", names[7])))
        self.check(("fn", ((("tuple", tuple(("name", key) for key in names)), None, ("tuple", tuple(("name", key) for key in names))),)))
        self.check(("case", ("int", 1), tuple((("int", n), None, ("int", n)) for n in range(6000))))
        self.check(("let", ((None, tuple((key, ((ANY, None, ("name", names[max(k - 1, 0)])),)) for k, key in enumerate(names[:4000]))),), ("int", 1)))
        inside = nested(150, lambda t: ("fn", ((ANY, None, t),)), ("tuple", tuple(("name", key) for key in names[:4000])))
        self.check(("let", ((("tuple", tuple(("name", key) for key in names[:4000])), FN),), inside), ("U",))
        pattern = nested(157, lambda p: ("or", ("tuple", (("name", X), ANY)), p), ("name", X))
        self.check(("fn", ((pattern, None, NX),)))

    def test_errors(self):
        for odd in ODD:
            self.assertRaises(InvalidTree, compiled, odd, uses=odd)
            if odd != () and odd != ("X",):
                self.assertRaises(InvalidOperation, compiled, ("int", 1), uses=odd)
        self.assertRaises(InvalidOperation, compiled, FN)
        self.assertRaises(InvalidOperation, compiled, FN, uses=("V",))
        for wrong in (("V", "U"), ["U"], ("U", "U"), ("U", "u")):
            self.assertRaises(InvalidOperation, compiled, FN, uses=wrong)
        self.assertEqual(compiled(FN, uses=("A", "U")).uses, ("A", "U"))

    def test_terms_that_no_program_has(self):
        """Names of functions and structures in patterns, exceptions of functions' values, bindings that hide others."""
        f, u = ("functor", "F"), ("structure", "U")
        for core, wanted in (
                (("let", ((("name", u), ("int", 3)),), ("name", u)), ("int", 3)),
                (("let", ((("as", f, ("name", X)), ("int", 3)), (("name", X), ("op", "+", (NX, ("name", f))))), NX), ("int", 6)),
                (("let", ((("name", X), ("int", 1)), (None, ((f, ((("name", X), None, ("op", "+", (NX, NX))),)),))), ("call", ("name", f), ("op", "+", (NX, ("int", 4))))), ("int", 10)),
                (("let", ((("name", E), ("exception", "E")), (("name", X), ("packet", ("name", E), ("int", 5)))),
                  ("case", NX, ((("packet", ("reserved", "Div"), ANY), None, ("int", 0)), (("packet", ("name", E), ("name", E)), None, ("name", E))))), ("int", 5)),
                (("field", ("table", ((f, ("int", 1)), (X, ("int", 2)))), f), ("int", 1)),
                (("let", ((None, ((X, ((("int", 0), None, ("int", 7)), (("name", f), None, ("call", NX, ("op", "-", (("name", f), ("int", 1)))))),),)),), ("call", NX, ("int", 3))), ("int", 7))):
            machine = Machine((("U", self.check(core)),))
            machine.go_on(most=100000)
            self.assertEqual((machine.ends, machine.units), (("done",), {"U": wanted}), core)

    def test_code_of_programs(self):
        for seed in range(15):
            self.check(flattened(program(random_text(random.Random(seed + 900), 3))))


if __name__ == "__main__":
    unittest.main()
