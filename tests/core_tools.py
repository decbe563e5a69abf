"""A second judge of core terms, written straight from the document, and random terms near right ones."""

from letquay.text.names import is_high, is_low

KINDS = {"value": is_low, "structure": is_high, "exception": is_high, "functor": is_high}
ONE, TWO = ("!", "ref", "text", "print", "read"), ("+", "-", "*", "div", "mod", "<", "=", "^", ":=")


class Wrong(Exception):
    pass


def need(truth):
    if not truth:
        raise Wrong


def is_int(value):
    return type(value) is int and -(2 ** 62) <= value < 2 ** 62


def is_text(value):
    return type(value) is str and len(value) <= 10000 and all(" " <= c <= "~" for c in value)


def is_key(value):
    return type(value) is tuple and len(value) == 2 and type(value[0]) is str and value[0] in KINDS and KINDS[value[0]](value[1])


class CoreJudge:
    def __init__(self):
        self.nodes = 0
        self.deepest = 0
        self.free = set()

    def node(self, depth):
        self.nodes += 1
        self.deepest = max(self.deepest, depth)
        need(depth < 400)

    def term(self, t, bound, depth):
        need(type(t) is tuple and t and type(t[0]) is str)
        self.node(depth)
        method = getattr(self, "t_" + t[0], None)
        need(method is not None)
        method(t, bound, depth + 1)

    def t_int(self, t, bound, d):
        need(len(t) == 2 and is_int(t[1]))

    def t_string(self, t, bound, d):
        need(len(t) == 2 and is_text(t[1]))

    def t_name(self, t, bound, d):
        need(len(t) == 2 and is_key(t[1]))
        if t[1] not in bound:
            need(t[1][0] == "structure")
            self.free.add(t[1][1])

    def t_tuple(self, t, bound, d):
        need(len(t) == 2 and type(t[1]) is tuple and len(t[1]) != 1)
        for part in t[1]:
            self.term(part, bound, d)

    def t_con(self, t, bound, d):
        need(len(t) == 3 and is_high(t[1]))
        if t[2] is not None:
            self.term(t[2], bound, d)

    def t_table(self, t, bound, d):
        need(len(t) == 2 and type(t[1]) is tuple)
        last = None
        for field in t[1]:
            need(type(field) is tuple and len(field) == 2 and is_key(field[0]) and (last is None or last < field[0]))
            last = field[0]
            self.nodes += 1
            self.term(field[1], bound, d)

    def t_field(self, t, bound, d):
        need(len(t) == 3 and is_key(t[2]))
        self.term(t[1], bound, d)

    def t_exception(self, t, bound, d):
        need(len(t) == 2 and is_high(t[1]))

    def t_packet(self, t, bound, d):
        need(len(t) == 3)
        self.term(t[1], bound, d)
        if t[2] is not None:
            self.term(t[2], bound, d)

    def t_reserved(self, t, bound, d):
        need(len(t) == 2 and type(t[1]) is str and t[1] in ("Match", "Div", "Size", "End"))

    def t_fn(self, t, bound, d):
        need(len(t) == 2)
        self.rows(t[1], bound, d)

    def t_case(self, t, bound, d):
        need(len(t) == 3)
        self.term(t[1], bound, d)
        self.rows(t[2], bound, d)

    t_handle = t_case

    def plain(self, t, many, bound, d):
        need(len(t) == many + 1)
        for part in t[1:]:
            self.term(part, bound, d)

    def t_call(self, t, bound, d):
        self.plain(t, 2, bound, d)

    t_then = t_while = t_both = t_either = t_call

    def t_if(self, t, bound, d):
        self.plain(t, 3, bound, d)

    def t_raise(self, t, bound, d):
        self.plain(t, 1, bound, d)

    def t_op(self, t, bound, d):
        need(len(t) == 3 and type(t[1]) is str and type(t[2]) is tuple and (t[1], len(t[2])) in [(w, 1) for w in ONE] + [(w, 2) for w in TWO])
        for part in t[2]:
            self.term(part, bound, d)

    def t_let(self, t, bound, d):
        need(len(t) == 3 and type(t[1]) is tuple and t[1])
        for pair in t[1]:
            need(type(pair) is tuple and len(pair) == 2)
            self.nodes += 1
            if pair[0] is None:
                need(type(pair[1]) is tuple and pair[1])
                for function in pair[1]:
                    need(type(function) is tuple and len(function) == 2 and is_key(function[0]))
                keys = [function[0] for function in pair[1]]
                need(len(set(keys)) == len(keys))
                bound = bound | set(keys)
                for function in pair[1]:
                    self.nodes += 1
                    self.rows(function[1], bound, d)
            else:
                self.term(pair[1], bound, d)
                bound = bound | self.pattern(pair[0], bound, d)
        self.term(t[2], bound, d)

    def rows(self, rows, bound, d):
        need(type(rows) is tuple and rows)
        for row in rows:
            need(type(row) is tuple and len(row) == 3)
            self.nodes += 1
            inner = bound | self.pattern(row[0], bound, d)
            if row[1] is not None:
                self.term(row[1], inner, d)
            self.term(row[2], inner, d)

    def pattern(self, p, bound, d):
        need(type(p) is tuple and p and type(p[0]) is str)
        self.node(d)
        word = p[0]
        if word == "any":
            need(len(p) == 1)
            return set()
        if word == "name":
            need(len(p) == 2 and is_key(p[1]))
            return {p[1]}
        if word in ("int", "string"):
            need(len(p) == 2 and (is_int(p[1]) if word == "int" else is_text(p[1])))
            return set()
        if word == "tuple":
            need(len(p) == 2 and type(p[1]) is tuple and len(p[1]) != 1)
            return self.joined([self.pattern(part, bound, d + 1) for part in p[1]])
        need(len(p) == 3)
        if word == "con":
            need(is_high(p[1]))
            return set() if p[2] is None else self.pattern(p[2], bound, d + 1)
        if word == "packet":
            self.exception(p[1])
            self.term(p[1], bound, d + 1)
            return set() if p[2] is None else self.pattern(p[2], bound, d + 1)
        if word == "as":
            need(is_key(p[1]))
            return self.joined([{p[1]}, self.pattern(p[2], bound, d + 1)])
        need(word == "or")
        one, other = self.pattern(p[1], bound, d + 1), self.pattern(p[2], bound, d + 1)
        need(one == other)
        return one

    def joined(self, sets):
        need(sum(map(len, sets)) == len(set().union(*sets)))
        return set().union(*sets)

    def exception(self, t):
        need(type(t) is tuple and t)
        if t[0] == "reserved":
            return
        while type(t) is tuple and len(t) == 3 and t[0] == "field":
            t = t[1]
        need(type(t) is tuple and len(t) == 2 and t[0] == "name")


def judged(value):
    """The pair of how many nodes a core term has and of its units, or None for what is none."""
    judge = CoreJudge()
    try:
        judge.term(value, frozenset(), 1)
    except Wrong:
        return None
    if judge.nodes > 20000 or judge.deepest > 160:
        return None
    return judge.nodes, tuple(sorted(judge.free))


ODD_PARTS = (
    None, True, 0, 7, "x", "X", "Div", (), ("any",), ("int", 1), ("name", ("value", "x")), ("name", ("structure", "U")), ("value", "x"), ("structure", "S"),
    ("exception", "E"), (("any",), None, ("int", 1)), ((("any",), None, ("int", 1)),), ("tuple", ()), ("reserved", "End"), "+", "!", ("con", "C", None), [],
    ("name", ("exception", "E")), ("field", ("name", ("structure", "U")), ("exception", "E")))


def changed(random, value, deep=0):
    """A value in which one part is another one."""
    if not isinstance(value, tuple) or not value or random.random() < 0.12 + deep * 0.02:
        return random.choice(ODD_PARTS)
    how = random.random()
    at = random.randrange(len(value))
    if how < 0.04:
        return (*value[:at], *value[at + 1:])
    if how < 0.08:
        return (*value[:at], value[random.randrange(len(value))], *value[at:])
    if how < 0.12:
        other = random.randrange(len(value))
        parts = list(value)
        parts[at], parts[other] = parts[other], parts[at]
        return tuple(parts)
    return (*value[:at], changed(random, value[at], deep + 1), *value[at + 1:])
