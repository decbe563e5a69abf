"""A second typing of expressions, by the table of the document over the solver, and random expressions."""

import random

from letquay.data.faces import base_face
from letquay.data.looking import declared_group, type_of_tree
from letquay.errors import Refused
from letquay.text.reader import read_type
from letquay.text.trees import names_bound
from letquay.types.books import Book
from letquay.types.schemes import Scheme
from letquay.types.solving import Solver
from letquay.types.terms import put, variables_of

INT, STRING, BOOL, EXN = [("made", n, ()) for n in (1, 2, 3, 4)]
UNIT = ("tuple", ())


def var(n):
    return ("var", n)


def ref_of(T):
    return ("made", 6, (T,))


def list_of(T):
    return ("made", 5, (T,))


def fn(T, U):
    return ("fn", T, U)


def tuple_of(*types):
    return ("tuple", types)


def wide():
    """A book and a face with a pair, a tree, an abstract type, exceptions, values, and a structure of them."""
    book, (dark, light) = Book().with_stamps((("dark", 0, None, None), ("light", 1, (0,), None)))
    face = base_face().with_type("dark", (0, ("made", dark, ()))).with_type("light", (1, ("made", light, (var(0),))))
    tree = ("con", ("tree",), (("var", "a"),))
    group = ((("a",), "tree", (("Leaf", None), ("Node", ("tuple", (tree, ("var", "a"), tree))))),
             (("a", "b"), "pair", (("Pair", ("tuple", (("var", "a"), ("con", ("ref",), (("var", "b"),))))),)))
    book, more = declared_group(book, face, group)
    face = face.opened(more)
    face = face.with_exception("Fail", STRING).with_exception("Stop", None)
    for name, T, marked in (("id", fn(var(0), var(0)), ()), ("same", fn(var(0), fn(var(0), BOOL)), (0,)),
                            ("both", fn(var(0), fn(var(1), tuple_of(var(0), var(1)))), (1,)), ("one", INT, ()),
                            ("shade", ("made", dark, ()), ()), ("shine", fn(var(0), ("made", light, (var(0),))), ())):
        if name != "both":
            face = face.with_value(name, Scheme.of(book, T, marked=marked))
        else:
            face = face.with_value("duo", Scheme.of(book, T, marked=marked))
    return book, face.with_structure("S", face)


BOOK, FACE = wide()
OPS = {
    "+": (INT, INT, INT), "-": (INT, INT, INT), "*": (INT, INT, INT), "div": (INT, INT, INT), "mod": (INT, INT, INT),
    "<": (INT, INT, BOOL), "^": (STRING, STRING, STRING), "text": (INT, STRING), "print": (STRING, UNIT),
    "read": (UNIT, INT)}


def final(e):
    if e[0] == "call":
        return e[1][0] == "con" and final(e[2])
    if e[0] == "tuple":
        return all(final(part) for part in e[1])
    return e[0] in ("int", "string", "name", "con", "fn") or e[0] == "typed" and final(e[1])


class Second:
    """The demands of an expression whose names can all be found, told as they come."""

    def __init__(self, book, face):
        self.book, self.face, self.solver = book, face, Solver(book)
        self.told, self.types = [], {}

    def new(self, marked=False):
        return self.solver.fresh(marked=marked)

    def one(self, place, T, U):
        self.told.append(("one", place, self.solver.solved(T), self.solver.solved(U)))
        self.solver.unite(place, T, U)

    def instance(self, T, general):
        images = {n: self.new(n in self.solver.marked) for n in general}
        types = [images.get(n, var(n)) for n in range(max(variables_of(self.book, T), default=-1) + 1)]
        return put(self.book, T, tuple(types))

    def free(self, T):
        return set(variables_of(self.book, self.solver.solved(T)))

    def generalized(self, bound, env):
        kept = set()
        for T, general in env.values():
            kept |= self.free(T) - set(general)
        return {x: (T, sorted(self.free(T) - kept)) for x, T in bound.items()}

    def tag(self, path):
        kind, *rest = self.face.tag(path)
        if kind == "exn":
            return EXN, rest[0]
        stamp, index = rest
        params = tuple(self.new() for _ in range(self.book.arity(stamp)))
        carried = self.book.constructors(stamp)[index][1]
        return ("made", stamp, params), None if carried is None else put(self.book, carried, params)

    def pattern(self, p, at, bound):
        self.types[at] = T = self.pattern_type(p, at, bound)
        self.solver.solved(T)
        return T

    def pattern_type(self, p, at, bound):
        word = p[0]
        if word in ("any", "name"):
            T = self.new()
            if word == "name":
                bound[p[1]] = T
            return T
        if word in ("int", "string"):
            return INT if word == "int" else STRING
        if word == "tuple":
            return ("tuple", tuple(self.pattern(q, (*at, 1, k), bound) for k, q in enumerate(p[1])))
        if word == "as":
            bound[p[1]] = self.pattern(p[2], (*at, 2), bound)
            return bound[p[1]]
        if word == "con":
            own, carried = self.tag(p[1])
            if p[2] is not None:
                self.one((*at, 2), carried, self.pattern(p[2], (*at, 2), bound))
            return own
        left, right = {}, {}
        T, U = self.pattern(p[1], (*at, 1), left), self.pattern(p[2], (*at, 2), right)
        self.one((*at, 2), T, U)
        for x in names_bound(p):
            self.one((*at, 2), left[x], right[x])
        bound.update(left)
        return T

    def rows(self, rows, at, A, B, env):
        for k, (p, guard, body) in enumerate(rows):
            bound = {}
            self.one((*at, k, 0), A, self.pattern(p, (*at, k, 0), bound))
            inner = {**env, **{x: (T, []) for x, T in bound.items()}}
            if guard is not None:
                self.one((*at, k, 1), BOOL, self.typed(guard, (*at, k, 1), inner))
            self.one((*at, k, 2), B, self.typed(body, (*at, k, 2), inner))

    def typed(self, e, at, env):
        self.types[at] = T = self.type_of(e, at, env)
        self.solver.solved(T)
        return T

    def let(self, e, at, env):
        if e[0] == "let":
            bound = {}
            T = self.typed(e[2], (*at, 2), env)
            self.one((*at, 1), T, self.pattern(e[1], (*at, 1), bound))
        else:
            bound = {f: self.new() for f, _ in e[1]}
            inner = {**env, **{x: (T, []) for x, T in bound.items()}}
            for k, (f, rows) in enumerate(e[1]):
                a, b = self.new(), self.new()
                self.rows(rows, (*at, 1, k, 1), a, b, inner)
                self.one((*at, 1, k), bound[f], fn(a, b))
        for T in bound.values():
            self.solver.solved(T)
        if e[0] == "letrec" or final(e[2]):
            more = self.generalized(bound, env)
        else:
            more = {x: (T, []) for x, T in bound.items()}
        return self.typed(e[-1], (*at, len(e) - 1), {**env, **more})

    def op(self, e, at, env):
        word = e[1]
        if word in OPS:
            *wanted, result = OPS[word]
        else:
            a = self.new(word == "=")
            *wanted, result = {"=": (a, a, BOOL), "ref": (a, ref_of(a)), "!": (ref_of(a), a),
                               ":=": (ref_of(a), a, UNIT)}[word]
        for k, (T, part) in enumerate(zip(wanted, e[2])):
            self.one((*at, 2, k), T, self.typed(part, (*at, 2, k), env))
        return result

    def type_of(self, e, at, env):
        word = e[0]
        if word in ("int", "string"):
            return INT if word == "int" else STRING
        if word == "name":
            if len(e[1]) == 1 and e[1][0] in env:
                T, general = env[e[1][0]]
                return self.instance(self.solver.solved(T), general)
            scheme = self.face.value(e[1])
            return put(self.book, scheme.body, tuple(self.new(n in scheme.marks) for n in range(scheme.total)))
        if word == "con":
            own, carried = self.tag(e[1])
            return own if carried is None else fn(carried, own)
        if word == "tuple":
            return ("tuple", tuple(self.typed(part, (*at, 1, k), env) for k, part in enumerate(e[1])))
        if word == "fn":
            a, b = self.new(), self.new()
            self.rows(e[1], (*at, 1), a, b, env)
            return fn(a, b)
        if word == "call":
            f, x = self.typed(e[1], (*at, 1), env), self.typed(e[2], (*at, 2), env)
            a = self.new()
            self.one(at, f, fn(x, a))
            return a
        if word in ("let", "letrec"):
            return self.let(e, at, env)
        if word == "op":
            return self.op(e, at, env)
        return self.simple(e, at, env)

    def simple(self, e, at, env):
        word = e[0]
        first = self.typed(e[1], (*at, 1), env)
        if word == "case":
            b = self.new()
            self.rows(e[2], (*at, 2), first, b, env)
            return b
        if word == "handle":
            self.rows(e[2], (*at, 2), EXN, first, env)
            return first
        if word == "raise":
            self.one((*at, 1), EXN, first)
            return self.new()
        if word == "typed":
            T = type_of_tree(self.book, self.face, e[2])
            self.one((*at, 1), T, first)
            return T
        if word in ("if", "while", "both", "either"):
            self.one((*at, 1), BOOL, first)
        second = self.typed(e[2], (*at, 2), env)
        if word == "then":
            return second
        if word == "while":
            return UNIT
        if word == "if":
            self.one((*at, 3), second, self.typed(e[3], (*at, 3), env))
            return second
        self.one((*at, 2), BOOL, second)
        return BOOL


def second_demands(book, face, tree):
    """The triple of the demands of an expression, its type, and the reason why it is refused, if it is."""
    second = Second(book, face)
    try:
        T = second.typed(tree, (), {})
    except Refused as refusal:
        return tuple(second.told), None, refusal.reason
    return tuple(second.told), second.solver.solved(T), None


NAMES = ("x", "y", "f", "g")
TYPES = tuple(read_type(text) for text in (
    "int", "bool -> int", "int list", "unit", "(int, string) pair", "int ref * dark", "int -> int -> bool"))


class Makes:
    """Random expressions, most of which can be typed in part."""

    def __init__(self, rng):
        self.rng = rng

    def pattern(self, deep, names):
        """A pattern and the names that it binds, out of some."""
        rng = self.rng
        which = rng.randrange(10) if deep > 0 else rng.randrange(4)
        if which < 2 and names:
            return ("name", names[0]), names[:1]
        if which == 2:
            return rng.choice([("int", 1), ("int", 2), ("string", "a"), ("con", ("True",), None)]), ()
        if which < 4:
            return ("any",), ()
        if which < 6:
            p, one = self.pattern(deep - 1, names)
            q, other = self.pattern(deep - 1, names[len(one):])
            return ("tuple", (p, q)), one + other
        if which == 6 and names:
            p, one = self.pattern(deep - 1, names[1:])
            return ("as", names[0], p), names[:1] + one
        if which == 7:
            p, one = self.pattern(deep - 1, names)
            q, other = self.pattern(deep - 1, names)
            return (("or", p, q), one) if sorted(one) == sorted(other) else (p, one)
        if which == 8:
            return rng.choice([("con", ("Nil",), None), ("con", ("Leaf",), None), ("con", ("Stop",), None),
                               ("con", ("S", "Leaf"), None)]), ()
        p, one = self.pattern(deep - 1, names)
        return ("con", rng.choice([("Cons",), ("Node",), ("Pair",), ("Fail",), ("S", "Pair")]), p), one

    def rows(self, deep, env):
        found = []
        for _ in range(self.rng.choice((1, 1, 2))):
            p, names = self.pattern(2, tuple(self.rng.sample(NAMES, 4)))
            guard = self.expression(deep - 2, env + names) if self.rng.random() < 0.2 else None
            found.append((p, guard, self.expression(deep - 1, env + names)))
        return tuple(found)

    def leaf(self, env):
        rng = self.rng
        which = rng.randrange(8)
        if which < 4 and env:
            return ("name", (rng.choice(env),))
        if which < 5:
            return rng.choice([("int", 1), ("string", "a"), ("tuple", ()), ("con", ("True",))])
        if which < 7:
            return rng.choice([("con", (c,)) for c in ("Nil", "Cons", "Node", "Leaf", "Pair", "Fail", "Stop")]
                              + [("con", ("S", "Cons"))])
        return ("name", rng.choice([("id",), ("same",), ("duo",), ("one",), ("shade",), ("shine",), ("S", "duo")]))

    def expression(self, deep, env=()):
        rng = self.rng
        if deep <= 0 or rng.random() < 0.1:
            return self.leaf(env)
        word = rng.choice(("fn", "fn", "call", "call", "call", "let", "let", "let", "letrec", "case", "if", "raise",
                           "handle", "then", "while", "both", "either", "typed", "op", "op", "tuple", "tuple"))
        below = [self.expression(deep - 1, env) for _ in range(3)]
        if word in ("call", "then", "while", "both", "either"):
            return (word, *below[:2])
        if word == "if":
            return (word, ("con", ("True",)) if rng.random() < 0.7 else below[0], *below[1:])
        if word == "raise":
            return (word, below[0] if rng.random() < 0.3 else ("con", ("Stop",)))
        if word == "typed":
            return (word, below[0], rng.choice(TYPES))
        if word == "tuple":
            return (word, tuple(below[:rng.choice((0, 2, 2, 3))]))
        if word == "op":
            op = rng.choice(("=", "=", "ref", "!", ":=", "+", "<", "^", "text", "print", "read"))
            return (word, op, tuple(below[:1 if op in ("ref", "!", "text", "print", "read") else 2]))
        if word == "fn":
            return (word, self.rows(deep, env))
        if word in ("case", "handle"):
            return (word, below[0], self.rows(deep, env))
        if word == "let":
            p, names = self.pattern(2, tuple(rng.sample(NAMES, 4))) if rng.random() < 0.5 else (("name", "f"), ("f",))
            return (word, p, below[0], self.expression(deep - 1, env + names))
        names = tuple(rng.sample(NAMES, rng.choice((1, 1, 2))))
        functions = tuple((name, self.rows(deep - 1, env + names)) for name in names)
        return (word, functions, self.expression(deep - 1, env + names))


def random_expressions(seed, many, deep=3):
    rng = random.Random(seed)
    makes = Makes(rng)
    return [makes.expression(rng.randrange(1, deep + 1)) for _ in range(many)]
