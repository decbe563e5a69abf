"""A second judge of derivations, which lists what must be equal, and then looks."""

from letquay.data.looking import type_of_tree
from letquay.text.trees import names_bound
from tests.case_tools import put
from tests.infer_tools import BOOK, BOOL, EXN, FACE, INT, OPS, STRING, UNIT, final, fn, ref_of
from tests.typing_tools import parts


def free(T):
    return {T[1]} if T[0] == "var" else set().union(*[free(part) for part in parts(T)])


def rename(T, names):
    if T[0] == "var":
        return names.get(T[1], T)
    below = tuple(rename(part, names) for part in parts(T))
    return ("fn", *below) if T[0] == "fn" else (*T[:-1], below)


class Wants:
    """What a derivation must fulfil: pairs of types that are equal, types that admit equality, and other truths."""

    def __init__(self, rows, marked):
        self.T = {place: T for place, T, _ in rows}
        self.more = {place: more for place, _, more in rows}
        self.marked = marked
        self.equal, self.admit, self.true = [], [], []
        self.seen = []

    def at(self, place, keeps=False):
        self.seen.append(place)
        if not keeps:
            self.true.append(self.more[place] == ())
        return self.T[place]

    def put_in(self, place, numbers, body, marks):
        more = self.more[place]
        self.true.append(len(more) == len(numbers))
        if len(more) == len(numbers):
            self.equal.append((self.T[place], rename(body, dict(zip(numbers, more)))))
            self.admit.extend(T for n, T in zip(numbers, more) if n in marks)

    def tag(self, place, path, carried_by):
        """Want that a constructor has its type; `carried_by` makes the whole of the type and what is carried."""
        kind, *rest = FACE.tag(path)
        more = self.more[place]
        if kind == "exn":
            self.true.append(more == ())
            own, carried = EXN, rest[0]
        else:
            self.true.append(len(more) == BOOK.arity(rest[0]))
            if len(more) != BOOK.arity(rest[0]):
                return
            carried = BOOK.constructors(rest[0])[rest[1]][1]
            own, carried = ("made", rest[0], more), None if carried is None else put(carried, more)
        self.equal.append((self.T[place], carried_by(own, carried)))

    def pattern(self, p, at, bound):
        word = p[0]
        T = self.at(at, word == "con")
        if word in ("name", "as"):
            bound[p[1]] = T
        if word in ("int", "string"):
            self.equal.append((T, INT if word == "int" else STRING))
        elif word == "tuple":
            self.equal.append((T, ("tuple", tuple(self.pattern(q, (*at, 1, k), bound) for k, q in enumerate(p[1])))))
        elif word == "as":
            self.equal.append((T, self.pattern(p[2], (*at, 2), bound)))
        elif word == "con":
            inner = None if p[2] is None else self.pattern(p[2], (*at, 2), bound)

            def whole(own, carried):
                if inner is not None:
                    self.equal.append((inner, carried))
                return own
            self.tag(at, p[1], whole)
        elif word == "or":
            left, right = {}, {}
            self.equal.append((T, self.pattern(p[1], (*at, 1), left)))
            self.equal.append((T, self.pattern(p[2], (*at, 2), right)))
            self.equal.extend((left[x], right[x]) for x in names_bound(p))
            bound.update(left)
        return T

    def rows(self, rows, at, env):
        A, B = self.T[(*at, 0, 0)], self.T[(*at, 0, 2)]
        for k, (p, guard, body) in enumerate(rows):
            bound = {}
            self.equal.append((A, self.pattern(p, (*at, k, 0), bound)))
            inner = {**env, **{x: (T, ()) for x, T in bound.items()}}
            if guard is not None:
                self.equal.append((BOOL, self.expression(guard, (*at, k, 1), inner)))
            self.equal.append((B, self.expression(body, (*at, k, 2), inner)))
        return A, B

    def functions(self, functions, at, env):
        bound = {f: fn(self.T[(*at, k, 1, 0, 0)], self.T[(*at, k, 1, 0, 2)]) for k, (f, _) in enumerate(functions)}
        for k, (_, rows) in enumerate(functions):
            self.rows(rows, (*at, k, 1), {**env, **{f: (T, ()) for f, T in bound.items()}})
        return bound

    def let(self, e, at, env):
        bound = {}
        if e[0] == "let":
            p = self.pattern(e[1], (*at, 1), bound)
            self.equal.append((p, self.expression(e[2], (*at, 2), env)))
        else:
            bound = self.functions(e[1], (*at, 1), env)
        more = self.more[at]
        self.true.append(all(type(n) is int and n >= 0 for n in more) and list(more) == sorted(set(more)))
        self.true.append(more == () or e[0] == "letrec" or final(e[2]))
        standing = set().union(*[free(T) for T in bound.values()], set())
        kept = set().union(*[free(T) - set(general) for T, general in env.values()], set())
        self.true.append(all(n in standing - kept for n in more))
        inner = {x: (T, tuple(n for n in more if n in free(T))) for x, T in bound.items()}
        return self.expression(e[-1], (*at, len(e) - 1), {**env, **inner})

    def expression(self, e, at, env):
        word = e[0]
        T = self.at(at, word in ("name", "con", "let", "letrec"))
        if word in ("let", "letrec"):
            self.equal.append((T, self.let(e, at, env)))
        elif word == "name":
            if len(e[1]) == 1 and e[1][0] in env:
                self.put_in(at, env[e[1][0]][1], env[e[1][0]][0], self.marked)
            else:
                scheme = FACE.value(e[1])
                self.put_in(at, range(scheme.total), scheme.body, scheme.marks)
        elif word == "con":
            self.tag(at, e[1], lambda own, carried: own if carried is None else fn(carried, own))
        elif word == "tuple":
            self.equal.append((T, ("tuple", tuple(self.expression(part, (*at, 1, k), env) for k, part in enumerate(e[1])))))
        elif word == "fn":
            self.equal.append((T, fn(*self.rows(e[1], (*at, 1), env))))
        else:
            self.others(e, at, env, T)
        return T

    def others(self, e, at, env, T):
        word = e[0]
        if word in ("int", "string"):
            self.equal.append((T, INT if word == "int" else STRING))
            return
        if word == "op":
            self.op(e, at, env, T)
            return
        below = [self.expression(part, (*at, k), env) for k, part in enumerate(e[1:], 1)
                 if word not in ("case", "handle", "typed") or k == 1]
        if word == "call":
            self.equal.append((below[0], fn(below[1], T)))
        elif word in ("case", "handle"):
            A, B = self.rows(e[2], (*at, 2), env)
            self.equal.extend([(A, below[0] if word == "case" else EXN), (B, T)])
            if word == "handle":
                self.equal.append((below[0], T))
        elif word == "typed":
            wanted = type_of_tree(BOOK, FACE, e[2])
            self.equal.extend([(T, wanted), (below[0], wanted)])
        else:
            wanted = {"if": [BOOL, T, T], "raise": [EXN], "then": [None, T], "while": [BOOL, None],
                      "both": [BOOL, BOOL], "either": [BOOL, BOOL]}[word]
            self.equal.extend((A, B) for A, B in zip(below, wanted) if B is not None)
            if word in ("while", "both", "either"):
                self.equal.append((T, UNIT if word == "while" else BOOL))

    def op(self, e, at, env, T):
        below = [self.expression(part, (*at, 2, k), env) for k, part in enumerate(e[2])]
        if e[1] in OPS:
            *wanted, result = OPS[e[1]]
        else:
            *wanted, result = {"=": (below[0], below[0], BOOL), "ref": (below[0], ref_of(below[0])),
                               "!": (ref_of(T), T), ":=": (ref_of(below[-1]), below[-1], UNIT)}[e[1]]
        if e[1] == "=":
            self.admit.append(below[0])
        self.equal.extend([*zip(below, wanted), (T, result)])


def admits(T, marked):
    if T[0] == "var":
        return T[1] in marked
    if T[0] == "fn":
        return False
    asks = range(len(T[1])) if T[0] == "tuple" else BOOK.asks(T[1])
    return asks is not None and all(admits(T[-1][k], marked) for k in asks)


def is_right(tree, rows, marked):
    """Whether rows, one for each node in order, and marks are a right derivation of an expression, by the second judge."""
    wants = Wants(rows, marked)
    wants.expression(tree, (), {})
    return all(wants.true) and all(T == U for T, U in wants.equal) and all(admits(T, marked) for T in wants.admit)
