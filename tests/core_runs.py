"""A second way to run core terms, straight from the document, and random terms with tables, picks and functors."""

IT = ("name", ("structure", "It"))
MATCH = ("packet", "Match", None)


class Raised(Exception):
    def __init__(self, value):
        self.value = value


def met(pattern, value, env):
    """The keys that a pattern binds, or None if the value does not meet it."""
    word = pattern[0]
    if word == "any":
        return {}
    if word == "name":
        return {pattern[1]: value}
    if word in ("int", "string"):
        return {} if value == pattern else None
    if word == "as":
        inner = met(pattern[2], value, env)
        return None if inner is None else {pattern[1]: value, **inner}
    if word == "or":
        one = met(pattern[1], value, env)
        return met(pattern[2], value, env) if one is None else one
    if word == "tuple":
        found = {}
        for part, member in zip(pattern[1], value[1]):
            inner = met(part, member, env)
            if inner is None:
                return None
            found.update(inner)
        return found
    same = value[1] == pattern[1] if word == "con" else value[1] is evaluated(pattern[1], env)
    if not same:
        return None
    return {} if pattern[2] is None else met(pattern[2], value[2], env)


def tried(rows, value, env):
    """What the first row gives that the value meets, as a tuple, or None."""
    for pattern, guard, body in rows:
        found = met(pattern, value, env)
        if found is not None:
            inner = {**env, **found}
            if guard is None or evaluated(guard, inner) == ("con", "True", None):
                return (evaluated(body, inner),)
    return None


def match(found):
    """What the first row gives that was met."""
    if found is None:
        raise Raised(MATCH)
    return found[0]


def applied(function, value):
    rows, env = function[1]()
    return match(tried(rows, value, env))


def evaluated(core, env):
    """The value of a core term: tables are pairs of the word and a dict, exceptions are lists, functions hold a call."""
    word = core[0]
    if word in ("int", "string"):
        return core
    if word == "name":
        return env[core[1]]
    if word == "tuple":
        return ("tuple", tuple([evaluated(part, env) for part in core[1]]))
    if word == "con":
        return ("con", core[1], None if core[2] is None else evaluated(core[2], env))
    if word == "table":
        return ("table", {key: evaluated(part, env) for key, part in core[1]})
    if word == "field":
        return evaluated(core[1], env)[1][core[2]]
    if word == "exception":
        return [core[1]]
    if word == "reserved":
        return core[1]
    if word == "packet":
        return ("packet", evaluated(core[1], env), None if core[2] is None else evaluated(core[2], env))
    if word == "fn":
        return ("fn", lambda: (core[1], env))
    if word == "call":
        function = evaluated(core[1], env)
        return applied(function, evaluated(core[2], env))
    if word == "let":
        for head, body in core[1]:
            env = bound_by(head, body, env)
        return evaluated(core[2], env)
    if word == "case":
        return match(tried(core[2], evaluated(core[1], env), env))
    if word == "if":
        return evaluated(core[2] if evaluated(core[1], env)[1] == "True" else core[3], env)
    if word == "raise":
        raise Raised(evaluated(core[1], env))
    if word == "handle":
        return handled(core, env)
    if word == "then":
        evaluated(core[1], env)
        return evaluated(core[2], env)
    return operated(core[1], [evaluated(part, env) for part in core[2]])


def handled(core, env):
    try:
        return evaluated(core[1], env)
    except Raised as raised:
        found = tried(core[2], raised.value, env)
        if found is None:
            raise
        return found[0]


def bound_by(head, body, env):
    if head is None:
        inner = dict(env)
        for key, rows in body:
            inner[key] = ("fn", lambda rows=rows: (rows, inner))
        return inner
    found = met(head, evaluated(body, env), env)
    if found is None:
        raise Raised(MATCH)
    return {**env, **found}


def operated(word, values):
    if word == "ref":
        return ["ref", values[0]]
    if word == "!":
        return values[0][1]
    if word == "+":
        return ("int", values[0][1] + values[1][1])
    raise NotImplementedError(word)


def seen(value):
    """A value without what cannot be compared."""
    if isinstance(value, list):
        return ("ref", seen(value[1])) if value[0] == "ref" else "exception"
    if isinstance(value, str):
        return "exception"
    if value[0] == "table":
        return ("table", tuple((key, seen(value[1][key])) for key in sorted(value[1])))
    if value[0] == "tuple":
        return ("tuple", tuple(seen(part) for part in value[1]))
    if value[0] in ("con", "packet"):
        return (value[0], value[1] if value[0] == "con" else "exception", None if value[2] is None else seen(value[2]))
    return ("fn",) if value[0] == "fn" else value


def seen_in(machine, value):
    """The same for a value of a machine."""
    if value[0] == "unit":
        return ("tuple", ())
    if value[0] == "word":
        return ("con", value[1], None)
    if value[0] == "exn":
        return "exception"
    if value[0] != "at":
        return value
    cell = machine.cell(value[1])
    if cell[0] == "table":
        return ("table", tuple((key, seen_in(machine, part)) for key, part in zip(cell[1], cell[2])))
    if cell[0] == "tuple":
        return ("tuple", tuple(seen_in(machine, part) for part in cell[1]))
    if cell[0] == "con":
        return ("con", cell[1], seen_in(machine, cell[2]))
    if cell[0] == "packet":
        return ("packet", "exception", None if cell[2] is None else seen_in(machine, cell[2]))
    return ("ref", seen_in(machine, cell[1])) if cell[0] == "ref" else ("fn",)


INT, EXN = "int", "exn"


class CoreMaker:
    """Random terms that always have a value, with tables everywhere: shapes are `INT`, `EXN`, or dicts of shapes by keys."""

    def __init__(self, random):
        self.random = random
        self.count = 0

    def key(self, kinds=("structure", "structure", "structure", "value", "exception")):
        self.count += 1
        kind = self.random.choice(kinds)
        letters = "".join("abcdefghij"[int(digit)] for digit in str(self.count % 40))
        return (kind, letters if kind == "value" else letters.capitalize())

    def known(self, env, depth=0):
        """The pairs (term, shape) of all that names and fields of names lead to."""
        found = []
        todo = [(("name", key), shape) for key, shape in env.items() if not isinstance(shape, tuple)]
        while todo:
            term, shape = todo.pop()
            found.append((term, shape))
            if isinstance(shape, dict):
                todo.extend([(("field", term, key), inner) for key, inner in shape.items()])
        return found

    def shape(self, depth):
        if depth == 0 or self.random.random() < 0.25:
            return self.random.choice((INT, INT, EXN))
        return self.table_shape(depth)

    def table_shape(self, depth):
        keys = [(kind, name) for kind, names in (("value", "xyz"), ("structure", "STU"), ("exception", "E")) for name in names]
        chosen = sorted(self.random.sample(keys, self.random.randint(0, 3)))
        plain = {"value": INT, "exception": EXN}
        return {key: self.shape(depth - 1) if key[0] == "structure" or self.random.random() < 0.2 else plain[key[0]] for key in chosen}

    def fits(self, shape, wanted):
        if isinstance(shape, str) or isinstance(wanted, str):
            return shape == wanted
        return all(key in shape and self.fits(shape[key], inner) for key, inner in wanted.items())

    def less(self, shape):
        """A shape with some keys less, as a pick can have: structures have tables."""
        return {key: self.less(inner) if isinstance(inner, dict) else inner for key, inner in shape.items() if self.random.random() < 0.75}

    def pickable(self, shape):
        return isinstance(shape, dict) and all(
            isinstance(inner, str) == (key[0] != "structure") and (isinstance(inner, str) or self.pickable(inner)) for key, inner in shape.items())

    def pick(self, term, shape):
        """The term picked by a shape."""
        fields = tuple((key, field if isinstance(shape[key], str) else self.pick(field, shape[key])) for key, field in [
            (key, ("field", IT, key)) for key in sorted(shape)])
        return ("let", ((IT, term),), ("table", fields))

    def made(self, shape, env, depth):
        """A term of a shape."""
        random = self.random
        fitting = [term for term, known in self.known(env) if known == shape]
        if fitting and random.random() < (0.45 if depth > 0 else 0.9):
            return random.choice(fitting)
        if depth <= 0:
            return self.plain(shape, env, 0)
        k = random.randint(0, 15)
        more = depth - 1
        if random.random() < 0.15:
            return self.caught(shape, env, more)
        if k == 0:
            key = self.key()
            return ("case", self.made(shape, env, more), ((("name", key), None, self.made(shape, {**env, key: shape}, more)),))
        if k == 1:
            key, other = self.key(), self.shape(2)
            pattern, value = ("tuple", (("name", key), ("any",))), ("tuple", (self.made(shape, env, more), self.made(other, env, more)))
            return ("let", ((pattern, value),), self.made(shape, {**env, key: shape}, more))
        if k == 2:
            return ("op", "!", (("op", "ref", (self.made(shape, env, more),)),))
        if k == 3:
            key, other = self.key(), self.shape(2)
            return ("call", ("fn", ((("name", key), None, self.made(shape, {**env, key: other}, more)),)), self.made(other, env, more))
        if k == 4:
            return ("if", ("con", random.choice(("True", "False")), None), self.made(shape, env, more), self.made(shape, env, more))
        if k == 5:
            return ("handle", ("raise", ("packet", ("reserved", "Div"), self.made(shape, env, more))), (
                (("packet", ("reserved", "Div"), ("name", ("structure", "H"))), None, ("name", ("structure", "H"))),))
        if k == 6:
            return ("then", self.made(self.shape(2), env, more), self.made(shape, env, more))
        if k < 11:
            pairs, inner = self.pairs(env, more)
            return ("let", tuple(pairs), self.made(shape, inner, more)) if pairs else self.plain(shape, env, more)
        functors = [(key, entry) for key, entry in env.items() if isinstance(entry, tuple) and self.fits(entry[2], shape) and (
            entry[2] == shape or self.pickable(shape))]
        if k < 14 and functors:
            key, (_, parameter, result) = random.choice(functors)
            call = ("call", ("name", key), self.argument(parameter, env, more))
            return call if result == shape else self.pick(call, shape)
        wider = [(term, known) for term, known in self.known(env) if isinstance(known, dict) and self.pickable(shape) and self.fits(known, shape)]
        if wider:
            return self.pick(random.choice(wider)[0], shape)
        return self.plain(shape, env, more)

    def caught(self, shape, env, depth):
        """A term of a shape that looks which exception there is, perhaps in a function."""
        random, key = self.random, self.key()
        env = {other: known for other, known in env.items() if other != key}
        paths = [term for term, known in self.known(env) if known == EXN] + [("reserved", "Div")]
        rows = [(self.exceptions(paths), None, self.made(shape, env, depth)) for _ in range(random.randint(1, 3))]
        packet = ("packet", random.choice(paths) if random.random() < 0.8 else self.made(EXN, env, depth), None)
        value, rows = ("tuple", (packet, packet)), (*rows, (("any",), None, self.made(shape, env, depth)))
        how = random.random()
        if how < 0.3:
            return ("case", value, rows)
        call = ("call", ("fn", rows), value)
        if how < 0.6:
            return call
        return ("call", ("fn", ((("name", key), None, ("call", ("fn", ((("any",), None, call),)), ("int", 1))),)), ("int", 2))

    def exceptions(self, paths):
        """A pattern for a pair of exceptions."""
        parts = []
        for _ in range(2):
            part = ("any",)
            for path in self.random.sample(paths, min(len(paths), self.random.randint(0, 3))):
                one = ("packet", path, None)
                part = one if part == ("any",) else ("or", one, part) if self.random.random() < 0.5 else ("or", part, one)
            parts.append(part)
        return ("tuple", tuple(parts))

    def argument(self, parameter, env, depth):
        if self.pickable(parameter) and self.random.random() < 0.9:
            return self.pick(self.made(parameter, env, depth), parameter)
        return self.made(parameter, env, depth)

    def plain(self, shape, env, depth):
        if shape == INT:
            return ("int", self.random.randint(0, 99))
        if shape == EXN:
            return self.random.choice((("exception", "Own"), ("reserved", "Div"), ("reserved", "End")))
        return ("table", tuple((key, self.made(shape[key], env, depth)) for key in sorted(shape)))

    def pairs(self, env, depth):
        """Some pairs of a let, and what is in scope behind them."""
        random, pairs, env = self.random, [], dict(env)
        for _ in range(random.randint(1, 5)):
            k = random.random()
            tables = [(term, shape) for term, shape in self.known(env) if isinstance(shape, dict) and shape]
            if k < 0.2:
                key = ("functor", self.key(("structure",))[1])
                parameter, inner = self.table_shape(3), ("structure", "X")
                result = self.shape(3)
                body = self.made(result, {**env, inner: parameter}, depth)
                pairs.append((("name", key), ("fn", ((("name", inner), None, body),))))
                env[key] = ("functor", parameter, result)
            elif k < 0.4 and tables:
                term, shape = random.choice(tables)
                keys = sorted(random.sample(sorted(shape), random.randint(1, len(shape))))
                fields = tuple(("field", term, key) for key in keys)
                names = tuple(("name", key) for key in keys)
                pairs.append((names[0], fields[0]) if len(keys) == 1 else (("tuple", names), ("tuple", fields)))
                env.update({key: shape[key] for key in keys})
            else:
                key, shape = self.key(), self.shape(3)
                wide = self.table_shape(3)
                if random.random() < 0.5 and self.pickable(wide):
                    shape = self.less(wide)
                    pairs.append((("name", key), self.pick(self.made(wide, env, depth), shape)))
                else:
                    pairs.append((("name", key), self.made(shape, env, depth)))
                env[key] = shape
        return pairs, env

    def whole(self):
        """A term whose value has all that was bound in it."""
        pairs, env = self.pairs({}, 3)
        more, env = self.pairs(env, 3)
        ends = [("name", key) for key, shape in env.items() if not isinstance(shape, tuple)]
        functors = [("call", ("name", key), self.argument(entry[1], env, 1)) for key, entry in env.items() if isinstance(entry, tuple)]
        fields = tuple((term[1], term) for term in sorted(ends))
        how = self.random.random()
        if how < 0.5:
            last = ("table", fields)
        elif how < 0.6 and functors:
            last = functors[-1]
        else:
            last = ("tuple", (*ends, *functors, ("int", 1), ("int", 2)))
        return ("let", (*pairs, *more), last)
