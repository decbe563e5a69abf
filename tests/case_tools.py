"""Values of types, one by one, and what the document says of rows, in the plainest way."""

import itertools
import random

from tests.infer_tools import BOOK, FACE, STRING, list_of, tuple_of

INT, BOOL, EXN = ("made", 1, ()), ("made", 3, ()), ("made", 4, ())
ANY = ("any",)
TREE = FACE.maker(("tree",))[1][1]
PAIR = FACE.maker(("pair",))[1][1]
INTS, STRINGS = (0, 1, 2, 3), ("", "a", "b", "c")
EXCEPTIONS = (("Div",), ("End",), ("Fail",), ("Match",), ("S", "Div"), ("S", "Fail"), ("Size",), ("Stop",))
TYPES = (
    INT, STRING, BOOL, EXN, list_of(BOOL), list_of(INT), tuple_of(BOOL, BOOL), tuple_of(INT, BOOL, STRING),
    tuple_of(tuple_of(BOOL, INT), list_of(BOOL)), ("made", TREE, (BOOL,)), tuple_of(EXN, BOOL), ("var", 0),
    tuple_of(("fn", INT, INT), BOOL), ("made", PAIR, (BOOL, INT)), list_of(list_of(BOOL)), ("tuple", ()))


def put(T, args):
    if T[0] == "var":
        return args[T[1]]
    if T[0] == "fn":
        return ("fn", put(T[1], args), put(T[2], args))
    return (*T[:-1], tuple(put(part, args) for part in T[-1]))


def constructors(T):
    """The pairs (name, carried type or None) of a datatype, or None."""
    found = BOOK.constructors(T[1]) if T[0] == "made" else None
    return None if found is None else [(c, None if U is None else put(U, T[2])) for c, U in found]


def values(T, deep):
    """All values of a type, of few integers and strings, that are not too deep."""
    if T in (INT, STRING):
        return list(INTS if T == INT else STRINGS)
    if T == EXN:
        found = [("thing",)]
        for path in EXCEPTIONS:
            carried = FACE.tag(path)[1]
            found.extend([("exn", path, None)] if carried is None else [("exn", path, s) for s in STRINGS])
        return found
    if T[0] == "tuple":
        return [("tuple", vs) for vs in itertools.product(*[values(U, deep) for U in T[1]])]
    if constructors(T) is None:
        return [("thing",)]
    found = []
    for name, U in constructors(T):
        if U is None:
            found.append(("con", name, None))
        elif deep > 0:
            found.extend(("con", name, v) for v in values(U, deep - 1))
    return found


def plain_alternatives(p):
    word = p[0]
    if word == "or":
        return plain_alternatives(p[1]) + plain_alternatives(p[2])
    if word == "tuple":
        return [("tuple", qs) for qs in itertools.product(*[plain_alternatives(q) for q in p[1]])]
    if word in ("as", "con") and p[2] is not None:
        return [(*p[:2], q) for q in plain_alternatives(p[2])]
    return [p]


def plain_bound(v, p):
    """What a value binds by a pattern without `or`, as places, or None."""
    def go(v, p, at):
        word = p[0]
        if word == "any":
            return {}
        if word == "name":
            return {p[1]: at}
        if word in ("int", "string"):
            return {} if v == p[1] else None
        if word == "as":
            found = go(v, p[2], at)
            return None if found is None else {**found, p[1]: at}
        if word == "tuple":
            found = {}
            for k, (w, q) in enumerate(zip(v[1], p[1])):
                more = go(w, q, (*at, k))
                if more is None:
                    return None
                found.update(more)
            return found
        if v[0] == "con" and v[1] == p[1][-1] or v[0] == "exn" and v[1] == p[1]:
            return {} if p[2] is None else go(v[2], p[2], (*at, v[1]))
        return None
    return go(v, p, ())


def first_met(v, p):
    for q in plain_alternatives(p):
        found = plain_bound(v, q)
        if found is not None:
            return found
    return None


def told_meets(v, t):
    word = t[0]
    if word == "any":
        return True
    if word in ("int", "string"):
        return v == t[1]
    if word == "but":
        return v not in t[1]
    if word == "but exceptions":
        return v == ("thing",) or v[1] not in t[1]
    if word == "tuple":
        return all(told_meets(w, q) for w, q in zip(v[1], t[1]))
    path = (v[1],) if v[0] == "con" else v[1] if v[0] == "exn" else None
    return path == t[1] and (t[2] is None or told_meets(v[2], t[2]))


def strip(p):
    return strip(p[2]) if p[0] == "as" else ANY if p[0] == "name" else p


def vectors(types, rows):
    """The missing vectors, column by column, as the document tells them."""
    if not types:
        return [()] if not rows else []
    if not rows:
        return [(ANY,) * len(types)]
    split = []
    todo = [list(row) for row in rows]
    while todo:
        row = todo.pop(0)
        first = strip(row[0])
        if first[0] == "or":
            todo[:0] = [[first[1], *row[1:]], [first[2], *row[1:]]]
        else:
            split.append([first, *row[1:]])
    if all(row[0] == ANY for row in split):
        return [(ANY, *v) for v in vectors(types[1:], [row[1:] for row in split])]
    T = types[0]
    if T[0] == "tuple":
        many = len(T[1])
        inner = [[*(row[0][1] if row[0] != ANY else (ANY,) * many), *row[1:]] for row in split]
        return [(("tuple", v[:many]), *v[many:]) for v in vectors((*T[1], *types[1:]), inner)]
    rest = vectors(types[1:], [row[1:] for row in split if row[0] == ANY])
    if constructors(T) is None:
        return literal_vectors(types, split, rest)
    found = []
    for name, U in constructors(T):
        if any(row[0] != ANY and row[0][1][-1] == name for row in split):
            found.extend(head_vectors(types, split, (name,), U, lambda p: p[1][-1:]))
        else:
            found.extend((("con", (name,), None if U is None else ANY), *v) for v in rest)
    return found


def head_vectors(types, split, path, U, path_of):
    left = []
    for row in split:
        if row[0] == ANY:
            left.append([*([] if U is None else [ANY]), *row[1:]])
        elif path_of(row[0]) == path:
            left.append([*([] if U is None else [row[0][2]]), *row[1:]])
    if U is None:
        return [(("con", path, None), *v) for v in vectors(types[1:], left)]
    return [(("con", path, v[0]), *v[1:]) for v in vectors((U, *types[1:]), left)]


def literal_vectors(types, split, rest):
    heads = sorted({row[0][1] for row in split if row[0] != ANY})
    found = []
    for head in heads:
        if types[0] == EXN:
            found.extend(head_vectors(types, split, head, FACE.tag(head)[1], lambda p: p[1]))
        else:
            left = [row[1:] for row in split if row[0] == ANY or row[0][1] == head]
            own = ("int" if types[0] == INT else "string", head)
            found.extend((own, *v) for v in vectors(types[1:], left))
    word = "but exceptions" if types[0] == EXN else "but"
    return found + [((word, tuple(heads)), *v) for v in rest]


def random_pattern(rng, T, names, deep=3):
    """A pattern that fits a type, and binds some of the names, each once."""
    which = rng.random()
    if deep == 0 or which < 0.2:
        return ("name", names.pop()) if names and rng.random() < 0.5 else ANY
    if which < 0.3 and names:
        x = names.pop()
        return ("as", x, random_pattern(rng, T, names, deep - 1))
    if which < 0.45:
        kept = list(names)
        p = random_pattern(rng, T, [], deep - 1)
        q = random_pattern(rng, T, [], deep - 1)
        if kept and rng.random() < 0.4:
            x = names.pop()
            p, q = bind(rng, p, x), bind(rng, q, x)
        return ("or", p, q)
    if T == INT:
        return ("int", rng.choice(INTS[:3]))
    if T == STRING:
        return ("string", rng.choice(STRINGS[:3]))
    if T == EXN:
        path = rng.choice(EXCEPTIONS)
        carried = FACE.tag(path)[1]
        return ("con", path, None if carried is None else random_pattern(rng, carried, names, deep - 1))
    if T[0] == "tuple":
        return ("tuple", tuple(random_pattern(rng, U, names, deep - 1) for U in T[1]))
    if constructors(T) is None:
        return ANY
    name, U = rng.choice(constructors(T))
    path = rng.choice([(name,), ("S", name)])
    return ("con", path, None if U is None else random_pattern(rng, U, names, deep - 1))


def bind(rng, p, x):
    return ("name", x) if p == ANY and rng.random() < 0.5 else ("as", x, p)


def random_rows(rng, T, most=4):
    return tuple((random_pattern(rng, T, ["x", "y", "z"]), rng.random() < 0.25) for _ in range(rng.randrange(1, most + 1)))


def alternatives_in(rows):
    return sum(len(plain_alternatives(p)) for p, _ in rows)


def cases(seed, many, most=4):
    """Random pairs of a type and of rows that fit it, with few alternatives."""
    rng = random.Random(seed)
    found = []
    while len(found) < many:
        T = rng.choice(TYPES)
        rows = random_rows(rng, T, most)
        if alternatives_in(rows) <= 64:
            found.append((T, rows))
    return found
