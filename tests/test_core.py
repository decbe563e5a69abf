"""Core terms: promises [9.1] and [9.2], part 9a."""

import random
import unittest

from letquay.code.core import MAX_CORE, MAX_CORE_DEPTH, core_nodes, free_units, is_core
from letquay.errors import InvalidTree
from letquay.modules.flatten import flattened
from tests.core_tools import changed, judged
from tests.odd import ODD
from tests.program_tools import program, random_text
from tests.structure_maker import random_structures

X, Y, F, S, E = ("value", "x"), ("value", "y"), ("value", "f"), ("structure", "S"), ("exception", "E")
ONE = ("int", 1)
NX = ("name", X)
ANY = ("any",)


def rows(*found):
    return tuple(found)


def fn(pattern, body, guard=None):
    return ("fn", ((pattern, guard, body),))


# Terms and how many nodes they have.
RIGHT = (
    (ONE, 1), (("int", 2 ** 62 - 1), 1), (("int", -(2 ** 62)), 1), (("string", ""), 1), (("string", "a" * 10000), 1),
    (("name", S), 1), (("tuple", ()), 1), (("tuple", (ONE, ONE)), 3), (("con", "C", None), 1), (("con", "C", ONE), 2),
    (("table", ()), 1), (("table", ((X, ONE),)), 3), (("table", ((E, ONE), (("functor", "F"), ONE), (S, ONE), (X, ONE))), 9),
    (("field", ("name", S), X), 2), (("field", ONE, ("functor", "F")), 2), (("exception", "E"), 1), (("exception", "Match"), 1),
    (("packet", ONE, None), 2), (("packet", ONE, ONE), 3), (("reserved", "Match"), 1), (("reserved", "End"), 1),
    (fn(ANY, ONE), 4), (fn(("name", X), NX, NX), 5), (("call", ONE, ONE), 3), (("let", ((("name", X), ONE),), NX), 5),
    (("let", ((("name", X), ONE), (("name", Y), NX)), ("name", Y)), 8),
    (("let", ((None, ((F, ((ANY, None, ("name", F)),)),)),), ("name", F)), 7),
    (("let", ((None, ((F, ((ANY, None, ("name", X)),)), (X, ((ANY, None, ("name", F)),)))),), NX), 11),
    (("case", ONE, ((("name", X), None, NX), (ANY, ONE, ONE))), 9), (("if", ONE, ONE, ONE), 4), (("raise", ONE), 2),
    (("handle", ONE, ((("name", X), None, NX),)), 5), (("then", ONE, ONE), 3), (("while", ONE, ONE), 3), (("both", ONE, ONE), 3),
    (("either", ONE, ONE), 3), (("op", "+", (ONE, ONE)), 3), (("op", "!", (ONE,)), 2), (("op", ":=", (ONE, ONE)), 3),
    (fn(("int", 1), ONE), 4), (fn(("string", "a"), ONE), 4), (fn(("tuple", ()), ONE), 4), (fn(("tuple", (ANY, ANY)), ONE), 6),
    (fn(("con", "C", None), ONE), 4), (fn(("con", "C", ("name", X)), NX), 5), (fn(("packet", ("reserved", "Div"), None), ONE), 5),
    (fn(("packet", ("name", S), ("name", X)), NX), 6), (fn(("packet", ("field", ("field", ("name", S), S), E), ANY), ONE), 8),
    (fn(("as", X, ANY), NX), 5), (fn(("or", ("name", X), ("as", X, ("int", 1))), NX), 7), (fn(("or", ANY, ("int", 1)), ONE), 6),
    (fn(("name", S), ("name", S)), 4), (fn(("name", E), fn(("packet", ("name", E), None), ONE)), 8),
)
WRONG = (
    ("int", 2 ** 62), ("int", True), ("int", "1"), ("int",), ("int", 1, 2), ("string", 1), ("string", "\n"), ("string", "a" * 10001),
    NX, ("name", E), ("name", ("functor", "F")), ("name", ("value", "X")), ("name", ("structure", "s")), ("name", ("type", "t")),
    ("name", "x"), ("name", ["structure", "S"]), ("tuple", (ONE,)), ("tuple", [ONE, ONE]), ("con", "c", None), ("con", "C"),
    ("con", "Toolongname", None), ("table", ((Y, ONE), (X, ONE))), ("table", ((X, ONE), (X, ONE))), ("table", ((X,),)),
    ("table", [(X, ONE)]), ("field", ("name", S), "x"), ("field", X), ("exception", "e"), ("packet", None, ONE), ("reserved", "E"),
    ("reserved", ["Div"]), ("fn", ()), ("fn", ((ANY, None),)), ("fn", [(ANY, None, ONE)]), ("call", ONE), ("let", (), ONE),
    ("let", ((ANY,),), ONE), ("let", ((None, ()),), ONE), ("let", ((None, ((F, ()),)),), ONE), ("let", ((None, ONE),), ONE),
    ("let", ((None, ((F, ((ANY, None, ONE),)), (F, ((ANY, None, ONE),)))),), ONE), ("case", ONE, ()), ("if", ONE, ONE),
    ("op", "+", (ONE,)), ("op", "!", (ONE, ONE)), ("op", "?", (ONE, ONE)), ("op", ["+"], (ONE, ONE)), ("op", "+", [ONE, ONE]),
    ("typed", ONE, ONE), ("letrec", (), ONE), (["int"], 1), (), ONE[:1], ("seal", ONE, ONE),
    fn(("int", True), ONE), fn(("tuple", (ANY,)), ONE), fn(("con", "c", None), ONE), fn(("tuple", (("name", X), ("name", X))), ONE),
    fn(("as", X, ("name", X)), ONE), fn(("or", ("name", X), ANY), ONE), fn(("or", ANY, ("name", X)), ONE),
    fn(("or", ("name", X), ("name", Y)), ONE), fn(("packet", ("name", E), None), ONE), fn(("packet", ONE, None), ONE),
    fn(("packet", ("call", ("name", S), ONE), None), ONE), fn(("packet", ("field", ("reserved", "Div"), E), None), ONE),
    fn(("tuple", (("name", E), ("packet", ("name", E), None))), ONE), fn(("as", E, ("packet", ("name", E), None)), ONE),
    fn(("packet", ("exception", "E"), None), ONE), fn(("raise", ONE), ONE), fn(None, ONE),
    # names outside of where they are bound
    ("tuple", (fn(("name", X), NX), NX)), ("let", ((("name", X), NX),), ONE), ("let", ((("name", Y), NX), (("name", X), ONE)), ONE),
    ("case", NX, ((("name", X), None, NX),)), ("handle", NX, ((("name", X), None, NX),)),
    ("fn", ((("name", X), None, NX), (ANY, None, NX))), ("then", ("let", ((("name", X), ONE),), NX), NX),
    ("let", ((None, ((F, ((("name", X), None, NX), (ANY, None, NX))),)),), ONE),
)


class CoreTest(unittest.TestCase):
    def test_right_terms(self):
        for term, many in RIGHT:
            self.assertIs(is_core(term), True, term)
            self.assertEqual(core_nodes(term), many, term)

    def test_wrong_values(self):
        for value in (*WRONG, *ODD):
            if value == ("int", 10 ** 80) or value not in [term for term, _ in RIGHT]:
                self.assertIs(is_core(value), False, value)
                self.assertRaises(InvalidTree, core_nodes, value)
                self.assertRaises(InvalidTree, free_units, value)

    def test_wrong_parts_of_right_terms(self):
        """Terms in which one part is another value."""
        def changed(term):
            for k, part in enumerate(term):
                for odd in (None, True, (), "x", 7, [1], NX):
                    yield (*term[:k], odd, *term[k + 1:])
                if isinstance(part, tuple):
                    for other in changed(part):
                        yield (*term[:k], other, *term[k + 1:])
        many = 0
        for term, _ in RIGHT:
            for value in changed(term):
                many += is_core(value)
        self.assertGreater(many, 20)

    def test_free_units(self):
        one, two = ("name", ("structure", "U")), ("name", ("structure", "Ab"))
        for term, wanted in (
                (ONE, ()), (one, ("U",)), (("tuple", (one, two, one)), ("Ab", "U")), (fn(("name", ("structure", "U")), one), ()),
                (("then", fn(("name", ("structure", "U")), one), one), ("U",)),
                (fn(("packet", ("field", one, E), None), two), ("Ab", "U")),
                (fn(("tuple", (("name", ("structure", "U")), ("packet", ("field", one, E), None))), ONE), ("U",)),
                (("let", ((("name", ("structure", "U")), one), (ANY, two)), one), ("Ab", "U"))):
            self.assertEqual(free_units(term), wanted, term)

    def test_how_many_nodes(self):
        self.assertTrue(is_core(("tuple", (ONE,) * (MAX_CORE - 1))))
        self.assertFalse(is_core(("tuple", (ONE,) * MAX_CORE)))
        row = (ANY, None, ONE)
        self.assertTrue(is_core(("case", ONE, (row,) * 6666)))
        self.assertFalse(is_core(("case", ONE, (row,) * 6667)))
        keys = tuple(sorted(("value", "ab" + "".join("abcdefghij"[n // 10 ** k % 10] for k in range(4))) for n in range(10000)))
        self.assertEqual(core_nodes(("table", tuple((key, ONE) for key in keys[:9999]))), 19999)
        self.assertFalse(is_core(("table", tuple((key, ONE) for key in keys))))
        pairs = ((("name", X), ONE),) * 6666
        self.assertTrue(is_core(("let", pairs, ONE)))
        self.assertFalse(is_core(("let", (*pairs, pairs[0]), ONE)))
        self.assertEqual((MAX_CORE, MAX_CORE_DEPTH), (20000, 160))

    def test_how_deep(self):
        def nested(n, make, term=ONE):
            for _ in range(n):
                term = make(term)
            return term
        for make, per in ((lambda t: ("raise", t), 1), (lambda t: fn(ANY, t), 1), (lambda t: ("table", ((X, t),)), 1),
                          (lambda t: ("let", ((ANY, t),), ONE), 1), (lambda t: ("let", ((None, ((F, ((ANY, None, t),)),)),), ONE), 1)):
            self.assertTrue(is_core(nested(159, make)))
            self.assertFalse(is_core(nested(160, make)))
        self.assertTrue(is_core(fn(nested(158, lambda p: ("con", "C", p), ANY), ONE)))
        self.assertFalse(is_core(fn(nested(159, lambda p: ("con", "C", p), ANY), ONE)))
        self.assertFalse(is_core(nested(190, lambda t: ("tuple", (t, t)))))

    def test_against_a_second_judge(self):
        rng = random.Random(11)
        bases = [term for term, _ in RIGHT]
        for seed in range(8):
            bases.append(flattened(program(random_text(random.Random(seed + 70), 1))))
            bases.append(flattened(program(random_structures(random.Random(2)))))
        counts = {True: 0, False: 0}
        for _ in range(6000):
            value = changed(rng, rng.choice(bases))
            wanted = judged(value)
            self.assertIs(is_core(value), wanted is not None, value)
            counts[wanted is not None] += 1
            if wanted is not None:
                self.assertEqual((core_nodes(value), free_units(value)), wanted)
        self.assertGreater(min(counts.values()), 300, counts)

    def test_terms_of_programs(self):
        for seed in range(10):
            found = flattened(program(random_text(random.Random(seed + 50), 2)))
            self.assertTrue(is_core(found))


if __name__ == "__main__":
    unittest.main()
