"""A second judge of trees, written straight from the document, to compare the package with."""

KEYWORDS = set(
    "and andalso as case datatype div do else end eqtype exception fn functor handle if in include let mod of open "
    "orelse print raise read rec ref sig signature struct structure text then type unit val when where while".split())
LOW = set("abcdefghijklmnopqrstuvwxyz")
HIGH = set("ABCDEFGHIJKLMNOPQRSTUVWXYZ")


class Wrong(Exception):
    """The value is no tree."""


def need(truth):
    if not truth:
        raise Wrong


def low(v):
    need(isinstance(v, str) and 1 <= len(v) <= 8 and set(v) <= LOW and v not in KEYWORDS)


def high(v):
    need(isinstance(v, str) and 1 <= len(v) <= 8 and v[0] in HIGH and set(v) <= LOW | HIGH)


def seq(v, least=0, most=None):
    need(type(v) is tuple and len(v) >= least and (most is None or len(v) <= most))
    return v


def path(v, last):
    seq(v, 1)
    for name in v[:-1]:
        high(name)
    last(v[-1])


def type_path(v):
    if type(v) is not tuple or v != ("ref",):
        path(v, low)


def integer(v):
    need(type(v) is int and -2 ** 62 <= v < 2 ** 62)


def string(v):
    need(isinstance(v, str) and len(v) <= 1000 and all(" " <= c <= "~" for c in v))


def node(v, many):
    seq(v, 1)
    need(isinstance(v[0], str))
    if v[0] not in many:
        raise Wrong
    need(len(v) == many[v[0]] + 1)
    return v[0]


def measure(parts):
    """(nodes, depth) of a node with these measures of its parts."""
    return 1 + sum(p[0] for p in parts), 1 + max([p[1] for p in parts], default=0)


def both(parts):
    """(nodes, depth) of what is no node."""
    return sum(p[0] for p in parts), max([p[1] for p in parts], default=0)


def members(v):
    need(len(seq(v)) != 1)
    return v


def type_(v, closed=False):
    word = node(v, {"var": 1, "eqvar": 1, "con": 2, "fn": 2, "tuple": 1})
    if word in ("var", "eqvar"):
        need(not closed)
        low(v[1])
        return measure([])
    if word == "con":
        type_path(v[1])
        return measure([type_(t, closed) for t in seq(v[2])])
    if word == "fn":
        return measure([type_(t, closed) for t in v[1:]])
    return measure([type_(t, closed) for t in members(v[1])])


def closed_option(v):
    return (0, 0) if v is None else type_(v, True)


def pattern(v):
    """The measure and the list of the names."""
    word = node(v, {"any": 0, "name": 1, "int": 1, "string": 1, "tuple": 1, "con": 2, "as": 2, "or": 2})
    parts = []
    names = []
    if word == "name":
        low(v[1])
        names = [v[1]]
    elif word == "int":
        integer(v[1])
    elif word == "string":
        string(v[1])
    elif word == "tuple":
        parts = [pattern(p) for p in members(v[1])]
    elif word == "con":
        path(v[1], high)
        parts = [pattern(v[2])] if v[2] is not None else []
    elif word == "as":
        low(v[1])
        names = [v[1]]
        parts = [pattern(v[2])]
    elif word == "or":
        parts = [pattern(v[1]), pattern(v[2])]
        need(sorted(parts[0][1]) == sorted(parts[1][1]))
        return measure([p[0] for p in parts]), parts[0][1]
    for p in parts:
        names = names + p[1]
    need(len(set(names)) == len(names))
    return measure([p[0] for p in parts]), names


def rows(v):
    parts = []
    for row in seq(v, 1):
        p, g, e = seq(row, 3, 3)
        parts.append(pattern(p)[0])
        if g is not None:
            parts.append(expression(g))
        parts.append(expression(e))
    return both(parts)


def functions(v):
    parts = []
    names = []
    for pair in seq(v, 1):
        low(seq(pair, 2, 2)[0])
        names.append(pair[0])
        parts.append(rows(pair[1]))
    need(len(set(names)) == len(names))
    return both(parts)


def expression(v):
    word = node(v, {
        "int": 1, "string": 1, "name": 1, "con": 1, "tuple": 1, "fn": 1, "call": 2, "let": 3, "letrec": 2, "case": 2,
        "if": 3, "raise": 1, "handle": 2, "then": 2, "while": 2, "both": 2, "either": 2, "typed": 2, "op": 2})
    if word in ("int", "string", "name", "con"):
        check = {"int": integer, "string": string, "name": lambda p: path(p, low), "con": lambda p: path(p, high)}
        check[word](v[1])
        return measure([])
    if word == "tuple":
        return measure([expression(e) for e in members(v[1])])
    if word == "fn":
        return measure([rows(v[1])])
    if word == "let":
        return measure([pattern(v[1])[0], expression(v[2]), expression(v[3])])
    if word == "letrec":
        return measure([functions(v[1]), expression(v[2])])
    if word in ("case", "handle"):
        return measure([expression(v[1]), rows(v[2])])
    if word == "typed":
        return measure([expression(v[1]), type_(v[2], True)])
    if word == "op":
        need(isinstance(v[1], str))
        one = v[1] in ("!", "ref", "text", "print", "read")
        need(one or v[1] in ("+", "-", "*", "div", "mod", "<", "=", "^", ":="))
        return measure([expression(e) for e in seq(v[2], 1 if one else 2, 1 if one else 2)])
    return measure([expression(e) for e in v[1:]])


def parameters(v):
    for name in seq(v, 0, 4):
        low(name)
    need(len(set(v)) == len(v))


def group(v):
    parts = []
    for row in seq(v, 1, 6):
        params, t, constructors = seq(row, 3, 3)
        parameters(params)
        low(t)
        for pair in seq(constructors, 1, 12):
            high(seq(pair, 2, 2)[0])
            if pair[1] is not None:
                parts.append(type_(pair[1]))
    return both(parts)


def declaration(v, top=True):
    many = {
        "val": 2, "rec": 1, "type": 3, "data": 1, "exception": 2, "alias": 2, "structure": 2, "open": 1}
    if top:
        many = {**many, "signature": 2, "functor": 4}
    word = node(v, many)
    if word == "val":
        return measure([pattern(v[1])[0], expression(v[2])])
    if word == "rec":
        return measure([functions(v[1])])
    if word == "type":
        parameters(v[1])
        low(v[2])
        return measure([type_(v[3])])
    if word == "data":
        return measure([group(v[1])])
    if word == "open":
        path(v[1], high)
        return measure([])
    high(v[1])
    if word == "exception":
        return measure([closed_option(v[2])])
    if word == "alias":
        path(v[2], high)
        return measure([])
    if word == "structure":
        return measure([structure(v[2])])
    if word == "signature":
        return measure([signature(v[2])])
    high(v[2])
    return measure([signature(v[3]), structure(v[4])])


def structure(v):
    word = node(v, {"struct": 1, "at": 1, "apply": 2, "seal": 2, "fit": 2})
    if word == "struct":
        return measure([declaration(d, False) for d in seq(v[1])])
    if word == "at":
        path(v[1], high)
        return measure([])
    if word == "apply":
        high(v[1])
        return measure([structure(v[2])])
    return measure([structure(v[1]), signature(v[2])])


def signature(v):
    word = node(v, {"sig": 1, "named": 1, "where": 4})
    if word == "named":
        high(v[1])
        return measure([])
    if word == "where":
        type_path(v[2])
        parameters(v[3])
        return measure([signature(v[1]), type_(v[4])])
    return measure([specification(s) for s in seq(v[1])])


def specification(v):
    word = node(v, {"val": 2, "type": 3, "abbr": 3, "data": 1, "exception": 2, "structure": 2, "include": 1})
    if word == "val":
        low(v[1])
        return measure([type_(v[2])])
    if word in ("type", "abbr"):
        parameters(v[1])
        low(v[2])
        if word == "abbr":
            return measure([type_(v[3])])
        need(type(v[3]) is bool)
        return measure([])
    if word == "data":
        return measure([group(v[1])])
    if word == "include":
        return measure([signature(v[1])])
    high(v[1])
    return measure([closed_option(v[2]) if word == "exception" else signature(v[2])])


def unit(v):
    return both([declaration(d) for d in seq(v)])


JUDGES = {
    "type": type_, "pattern": lambda v: pattern(v)[0], "expression": expression, "declaration": declaration,
    "structure": structure, "signature": signature, "unit": unit,
}


def judged(kind, value):
    """Whether the value is a tree of the kind."""
    try:
        nodes, depth = JUDGES[kind](value)
    except Wrong:
        return False
    return nodes <= 3000 and depth <= 60
