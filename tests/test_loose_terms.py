"""[9.6]: what a core term does is the same wherever its tables are cut; also for terms that no program has."""

import itertools
import random
import unittest

from letquay.code.core import core_nodes, is_core
from letquay.code.judge import is_sound
from letquay.code.making import _blocks_of, compiled
from letquay.machine.runs import Machine
from letquay.modules.flatten import flattened, picked
from tests.core_runs import CoreMaker, evaluated, seen, seen_in
from tests.program_tools import program
from tests.test_cutting import nested

IT = ("name", ("structure", "It"))
X, Y = ("value", "x"), ("value", "y")
A, B, S, T = [("structure", name) for name in "ABST"]
F, G = ("functor", "F"), ("functor", "G")
ANY, ONE, TWO = ("any",), ("int", 1), ("int", 2)
WORDS = ("call", "tail", "closure")


def name(key):
    return ("name", key)


def field(core, *keys):
    for key in keys:
        core = ("field", core, key)
    return core


def table(**fields):
    """A table: its low names are those of values, its high ones those of structures."""
    return ("table", tuple(sorted((("value" if key.islower() else "structure", key), core) for key, core in fields.items())))


def pick(core, *keys):
    return ("let", ((IT, core),), ("table", tuple((key, field(IT, key)) for key in sorted(keys))))


def let(*pairs):
    """A let of pairs (key, term), or of other pairs as they stand, and of a last term."""
    keys = ("value", "structure", "functor")
    return ("let", tuple((name(head) if head is not None and head[0] in keys else head, core) for head, core in pairs[:-1]), pairs[-1])


def fn(key, core):
    return ("fn", ((name(key), None, core),))


def case(core, pattern, body):
    return ("case", core, ((pattern, None, body),))


def opened(path, *keys):
    """The pair by which an `open` names several keys like fields of a path."""
    return ("tuple", tuple(name(key) for key in keys)), ("tuple", tuple(field(path, key) for key in keys))


def words_of(blocks):
    return [sum(row[0] == word for block in blocks for row in block[2]) for word in WORDS]


WIDE = table(x=ONE, y=TWO)
SMALL = pick(WIDE, X)


class TermsTest(unittest.TestCase):
    def check(self, core):
        """The code of a term is right, and the machine gives what the term is by itself."""
        self.assertTrue(is_core(core))
        code = compiled(core)
        self.assertTrue(is_sound(code))
        self.assertLessEqual(code.size, 200 * (core_nodes(core) + 1))
        self.assertEqual(words_of(code.blocks), words_of(_blocks_of(core, False)))
        machine = Machine((("U", code),))
        while machine.ends is None:
            machine.go_on(most=100000)
        self.assertEqual((machine.ends, seen_in(machine, machine.units["U"])), (("done",), seen(evaluated(core, {}))))
        return code

    def test_where_tables_are_handed_on(self):
        """A table that is picked has no more fields wherever it goes as a whole."""
        s, t = name(S), name(T)
        packet = ("packet", ("reserved", "Div"), s)
        for core in (
                s, ("tuple", (s, s)), ("con", "C", s), table(A=s), table(A=s, B=s), ("table", ((X, s),)), ("op", "!", (("op", "ref", (s,)),)), ("op", "ref", (s,)), packet,
                ("call", fn(T, t), s), ("call", fn(X, s), ONE), ("if", ("con", "True", None), s, ONE), case(s, t, t), case(s, ("as", T, ANY), ("tuple", (t, ONE))),
                case(("tuple", (s, ONE)), ("tuple", (t, ANY)), t), ("handle", ("raise", packet), ((("packet", ("reserved", "Div"), t), None, t),)), ("then", ONE, s),
                field(table(A=s), A), let((T, table(A=s)), ("tuple", (field(t, A), t))), let((X, s), name(X)), field(("table", ((X, s),)), X),
                let((X, ("table", ((X, s),))), field(name(X), X)), let((T, pick(s, X)), table(A=t, B=s)), let((("tuple", (t, ANY)), ("tuple", (s, ONE))), t),
                let((T, table(S=s)), (A, field(t, S)), ("tuple", (name(A), t))), let((T, table(S=s, A=s)), opened(t, A, S), ("tuple", (s, t, name(A)))), field(let((T, s), table(S=t, x=ONE)), S),
                ("let", ((None, ((Y, ((ANY, None, SMALL),)),)),), ("call", name(Y), ONE)), fn(X, s)):
            self.check(let((S, SMALL), core))
        for core in (SMALL, pick(WIDE), pick(SMALL, X), ("tuple", (SMALL, pick(WIDE))), table(A=SMALL, B=pick(WIDE))):
            self.check(core)

    def test_functors(self):
        a, f, call = name(A), name(F), ("call", name(F), SMALL)
        for body in (
                a, table(S=a), table(x=field(a, X)), pick(a, X), pick(a), let((T, a), name(T)), ("tuple", (a, a)), ("table", ((X, a),)), fn(X, a), case(a, name(T), name(T)),
                let((T, SMALL), table(S=name(T), T=a)), ("call", fn(T, name(T)), a), ("handle", a, ((ANY, None, ONE),)), ONE):
            bound = (F, fn(A, body))
            for core in (
                    let(bound, ("tuple", (call, call))), let(bound, table(S=call)), let(bound, (S, call), name(S)), let(bound, (S, call), table(S=name(S))), let(bound, call),
                    let(bound, (S, call), (T, call), ("tuple", (name(S), name(T)))), let(bound, ("tuple", (call, ("call", f, WIDE)))), let(bound, ("tuple", (call, f))),
                    let(bound, (X, f), ("call", name(X), WIDE)), let(bound, ("table", ((F, f),))), let(bound, ONE), let(bound, ("tuple", (call, let((F, fn(A, ONE)), call)))),
                    let(bound, (G, fn(A, ("call", f, pick(a, X)))), ("tuple", (call, ("call", name(G), pick(WIDE, X, Y))))), let(bound, ("call", fn(X, call), ONE)),
                    let(bound, ("call", f, ("call", fn(X, SMALL), ONE))), ("call", fn(F, call), fn(A, body)), ("let", ((None, ((F, ((name(A), None, body),)),)),), call),
                    case(fn(A, body), ("as", F, ANY), call), let((F, ("fn", ((name(A), ("con", "True", None), body),))), call),
                    let((F, ("fn", ((name(A), None, body), (ANY, None, ONE)))), call), let((F, ("fn", ((("as", A, ANY), None, body),))), call)):
                self.check(core)

    def test_functors_that_are_applied_to_what_is_picked_unlike(self):
        """Each argument has just the fields that its own pick has."""
        wide = table(x=ONE, y=TWO, S=table(x=ONE, y=TWO))
        inner = ("let", ((IT, wide),), ("table", ((S, pick(field(IT, S), X)), (X, field(IT, X)))))
        calls = [("call", name(F), core) for core in (pick(wide, X), pick(wide, X, Y), pick(wide, X), inner)]
        for body in (name(A), table(T=name(A)), field(name(A), X), ("tuple", (name(A), ONE))):
            for some in itertools.permutations(calls, 2):
                self.check(let((F, fn(A, body)), ("tuple", some)))

    def test_picks_by_faces(self):
        inner = "struct val x = 1 exception E end"
        face = program(f"structure S = {nested(4, 'PQ', inner)} val y = 2").face
        core = flattened(program(f"structure S = {nested(4, 'PQ', inner, 'val w = 3')} val y = 2 val z = 3 exception F"))
        self.check(picked(face, core))
        self.check(let((S, picked(face, core)), (T, picked(face, name(S))), table(A=name(T), B=field(name(S), S))))

    def test_terms_that_are_near_picks(self):
        """Only what has each field under its own key, and of the nearest `It`, is picked."""
        wide = table(x=ONE, y=TWO, S=table(x=ONE, y=TWO))
        inner = field(IT, S)
        for fields in (
                ((X, field(IT, Y)),), ((X, field(IT, X)), (Y, ONE)), ((S, inner),), ((S, pick(inner, X)), (X, field(IT, X))), ((S, pick(wide, X)),), ((S, pick(IT, X)),),
                ((S, let((T, inner), name(T))),), ((S, pick(inner, X)), (T, pick(inner, Y))), ((S, ("let", ((IT, inner),), ("tuple", ()))),), (), ((X, IT),)):
            core = ("let", ((IT, wide),), ("table", fields))
            self.check(core)
            self.check(let((T, core), ("tuple", (name(T), ONE))))
        for core in (let((("structure", "It"), wide), pick(IT, X)), ("let", ((IT, wide), (name(X), ONE)), ("table", ((X, field(IT, X)),))), ("let", ((IT, wide),), IT)):
            self.check(core)

    def test_names_of_fields(self):
        """What is named like a field is looked up where it stands, whatever hides the name of its table by then."""
        wide, t = table(x=ONE, y=TWO, S=table(x=("int", 3))), name(T)
        both = ("tuple", (name(X), name(Y)))
        add = ("op", "+", (name(X), t))
        for core in (
                let((T, wide), opened(t, X, Y), (T, ONE), ("tuple", (both, t))), let((T, wide), opened(t, S, Y), (X, field(name(S), X)), ("tuple", (both, name(S)))),
                let((S, table(S=table(S=table(S=ONE)))), (S, field(name(S), S)), (S, field(name(S), S)), field(name(S), S)), let((T, wide), opened(t, X, Y), fn(T, ("tuple", (both, t)))),
                let((T, wide), opened(t, X, Y), (None, ((("value", "f"), ((t, None, add),)),)), ("call", name(("value", "f")), name(Y))),
                let((T, wide), opened(t, X, Y), ("call", fn(T, ("call", fn(Y, add), ONE)), name(Y))), let((T, wide), (opened(t, X, Y)[0], ("tuple", (field(t, Y), field(t, X)))), both),
                let((T, wide), (S, wide), (("tuple", (name(X), name(Y))), ("tuple", (field(t, X), field(name(S), Y)))), both), let((("tuple", ()), ("tuple", ())), ONE),
                let((T, wide), (("tuple", (name(X), ANY)), ("tuple", (field(t, X), field(t, Y)))), name(X)), let((T, wide), (X, field(t, Y)), name(X)),
                let((T, wide), (name(X), field(("call", fn(A, t), ONE), X)), name(X)),
                let((T, wide), (X, field(t, S, X)), ("op", "+", (name(X), field(t, X))))):
            self.check(core)

    def test_long_ways(self):
        """Three hundred names, each of a field of the one ahead: not all of the way is gone for each use."""
        keys = [("structure", "K" + "".join("abcdefghij"[int(digit)] for digit in f"{k:03}")) for k in range(300)]
        pairs, known = [], A
        for key in keys[::-1]:
            pairs.append((B, ("table", ((key, name(known)),))))
            known = B
        for key in keys:
            pairs.append((name(key), field(name(known), key)))
            known = key
        core = let((A, table(x=ONE)), *pairs, ("tuple", (field(name(known), X),) * 500))
        self.assertLess(self.check(core).size, 120000)

    def test_doubled_tables(self):
        """Tables that would have far more fields than the term has nodes, if all of them were made apart."""
        for fan, levels in itertools.product((1, 2, 3, 5), range(1, 13)):
            pairs = [(A, SMALL)]
            for k in range(levels):
                pairs.append((("structure", f"S{'abcdefghijkl'[k]}"), table(**{letter: name(pairs[-1][0]) for letter in "PQRST"[:fan]})))
            last = name(pairs[-1][0])
            for end in (last, ("tuple", (last, last)), table(Z=last), table(Z=last, Y=name(A))):
                core = let(*pairs, end)
                if fan ** levels < 1000:
                    self.check(core)
                else:
                    self.assertLessEqual(compiled(core).size, 200 * (core_nodes(core) + 1))

    def test_random_terms(self):
        loose, given_up = 0, 0
        for seed in range(500):
            core = CoreMaker(random.Random(seed)).whole()
            self.check(core)
            blocks = _blocks_of(core, True)
            loose += blocks is not None and blocks != _blocks_of(core, False)
            given_up += blocks is None
        self.assertGreater(loose, 300)
        self.assertGreater(given_up, 0)


if __name__ == "__main__":
    unittest.main()
