"""Core terms: whether a value is one, how many nodes it has, and the units that it names."""

from letquay.data.faces import RESERVED_EXCEPTIONS
from letquay.errors import InvalidTree
from letquay.text.forms import ONE_OPERAND, TWO_OPERANDS, is_literal_integer
from letquay.text.names import is_high, is_low

MAX_CORE = 20000
MAX_CORE_DEPTH = 160
MAX_LETTERS = 10000

KINDS = ("value", "structure", "exception", "functor")

# What stands behind the word of a term or a pattern. A sort with "?" behind it can be None.
FORMS = {
    "term int": ("integer",),
    "term string": ("string",),
    "term name": ("key",),
    "term tuple": ("terms",),
    "term con": ("high", "term?"),
    "term table": ("fields",),
    "term field": ("term", "key"),
    "term exception": ("high",),
    "term packet": ("term", "term?"),
    "term reserved": ("reserved",),
    "term fn": ("rows",),
    "term call": ("term", "term"),
    "term let": ("pairs", "term"),
    "term case": ("term", "rows"),
    "term if": ("term", "term", "term"),
    "term raise": ("term",),
    "term handle": ("term", "rows"),
    "term then": ("term", "term"),
    "term while": ("term", "term"),
    "term both": ("term", "term"),
    "term either": ("term", "term"),
    "term op": ("word", "operands"),
    "pattern any": (),
    "pattern name": ("key",),
    "pattern int": ("integer",),
    "pattern string": ("string",),
    "pattern tuple": ("patterns",),
    "pattern con": ("high", "pattern?"),
    "pattern packet": ("exception term", "pattern?"),
    "pattern as": ("key", "pattern"),
    "pattern or": ("pattern", "pattern"),
}


def is_key(value):
    """Whether the value is a key."""
    if not isinstance(value, tuple) or len(value) != 2 or not isinstance(value[0], str) or value[0] not in KINDS:
        return False
    return is_low(value[1]) if value[0] == "value" else is_high(value[1])


def are_ascending_keys(value):
    """Whether the value is a strictly ascending tuple of keys."""
    if not isinstance(value, tuple) or not all([is_key(key) for key in value]):
        return False
    return all([low < high for low, high in zip(value, value[1:])])


def is_letters(value):
    """Whether the value is a string of a program."""
    if not isinstance(value, str) or len(value) > MAX_LETTERS:
        return False
    return all([" " <= letter <= "~" for letter in value])


def is_reserved(value):
    """Whether the value is the name of a reserved exception."""
    return isinstance(value, str) and value in RESERVED_EXCEPTIONS


def _is_word(value):
    return isinstance(value, str) and (value in ONE_OPERAND or value in TWO_OPERANDS)


def _is_leaf(sort, value):
    """Whether the value is a part without nodes in it."""
    if sort == "integer":
        return is_literal_integer(value)
    if sort == "string":
        return is_letters(value)
    if sort == "key":
        return is_key(value)
    if sort == "high":
        return is_high(value)
    return is_reserved(value) if sort == "reserved" else _is_word(value)


LEAVES = ("integer", "string", "key", "high", "reserved", "word")


def form_in(kind, value):
    """The sorts of the parts of any value, as a term or pattern, or None if it has no such word, or other members."""
    if not isinstance(value, tuple) or len(value) == 0 or not isinstance(value[0], str):
        return None
    sorts = FORMS.get(f"{kind} {value[0]}")
    return sorts if sorts is not None and len(value) == 1 + len(sorts) else None


def keys_of(pattern):
    """The list of the keys that a pattern binds, or None if they are unlike where they must be alike, or doubled.

    The value has the form of a pattern.
    """
    word = pattern[0]
    if word == "or":
        one, other = keys_of(pattern[1]), keys_of(pattern[2])
        return one if one is not None and other is not None and sorted(one) == sorted(other) else None
    parts = pattern[1] if word == "tuple" else (pattern[-1],) if word in ("con", "packet", "as") else ()
    inside = [keys_of(part) for part in parts if part is not None]
    if any([keys is None for keys in inside]):
        return None
    own = [pattern[1]] if word in ("name", "as") else []
    found = [*own, *[key for keys in inside for key in keys]]
    return found if len(set(found)) == len(found) else None


def is_named(value):
    """Whether any value is a name, a field of a name or of such a field, or reserved, as far as words tell."""
    many = 0
    while form_in("term", value) is not None and value[0] == "field" and many <= MAX_CORE_DEPTH:
        value = value[1]
        many += 1
    return form_in("term", value) is not None and (value[0] == "name" or value[0] == "reserved" and many == 0)


class Survey:
    """Goes through any value as a core term; `wrong` tells that it is none.

    What is still to be done are triples (action, what, depth), the next one last. The keys that are bound are counted,
    as those of inner and outer bindings come and go.
    """

    def __init__(self):
        self.nodes = 0
        self.bound = {}
        self.unit_names = {}
        self.wrong = False
        self.todo = []

    def run(self, value):
        """Go through any value; whether it is a core term."""
        self.todo = [("term", value, 1)]
        while self.todo and not self.wrong:
            word, what, depth = self.todo.pop()
            if word == "term":
                self._term(what, depth)
            elif word == "pattern":
                self._node("pattern", what, depth)
            elif word == "row":
                self._row(what, depth)
            elif word == "body":
                self._body(what, depth)
            elif word == "pair":
                self._pair(what, depth)
            elif word == "bind":
                self._bind(*what)
            else:
                self._count(what, -1)
        return not self.wrong

    def _check(self, truth):
        if not truth:
            self.wrong = True
        return truth

    def _count(self, keys, many):
        for key in keys:
            self.bound[key] = self.bound.get(key, 0) + many

    def _add_nodes(self, many, depth):
        self.nodes += many
        self._check(self.nodes <= MAX_CORE and depth <= MAX_CORE_DEPTH)

    def _later(self, actions):
        """Do some actions next, in order."""
        if not self.wrong:
            self.todo.extend(actions[::-1])

    def _node(self, kind, value, depth):
        """Go through a term or pattern."""
        sorts = form_in(kind, value)
        self._add_nodes(1, depth)
        if not self._check(sorts is not None):
            return
        actions = []
        for sort, part in zip(sorts, value[1:]):
            actions.extend(self._actions_of(sort, value, part, depth))
        self._later(actions)

    def _actions_of(self, sort, value, part, depth):
        """What is to be done for a part of a value, behind a look at the part itself."""
        if sort in LEAVES:
            self._check(_is_leaf(sort, part))
            return []
        if sort[-1] == "?":
            return [] if part is None else [(sort[:-1], part, depth + 1)]
        if sort in ("term", "pattern"):
            return [(sort, part, depth + 1)]
        if sort == "exception term":
            self._check(is_named(part))
            return [("term", part, depth + 1)]
        if not self._check(isinstance(part, tuple)):
            return []
        if sort == "fields":
            return self._fields(part, depth)
        if sort == "rows":
            self._check(len(part) > 0)
            return [("row", row, depth) for row in part]
        if sort == "operands":
            self._check(len(part) == (1 if value[1] in ONE_OPERAND else 2))
            return [("term", member, depth + 1) for member in part]
        self._check(len(part) != 1)
        return [(sort[:-1], member, depth + 1) for member in part]

    def _fields(self, fields, depth):
        if not self._check(all([isinstance(field, tuple) and len(field) == 2 for field in fields])):
            return []
        self._check(are_ascending_keys(tuple([field[0] for field in fields])))
        self._add_nodes(len(fields), depth)
        return [("term", field[1], depth + 1) for field in fields]

    def _term(self, value, depth):
        if form_in("term", value) is None or value[0] != "let":
            self._node("term", value, depth)
            if not self.wrong and value[0] == "name" and self.bound.get(value[1], 0) == 0:
                self._check(value[1][0] == "structure")
                self.unit_names[value[1][1]] = True
            return
        self._add_nodes(1, depth)
        _, pairs, last = value
        if self._check(isinstance(pairs, tuple) and len(pairs) > 0):
            # The keys that the pairs bind, which come into this list one after the other.
            held = []
            actions = [("pair", (pair, held), depth) for pair in pairs]
            self._later([*actions, ("term", last, depth + 1), ("unbind", held, depth)])

    def _pair(self, what, depth):
        """Go through a pair of a let."""
        value, held = what
        self._add_nodes(1, depth)
        if not self._check(isinstance(value, tuple) and len(value) == 2):
            return
        head, body = value
        if head is None:
            self._functions(body, held, depth)
        else:
            self._later([("term", body, depth + 1), ("pattern", head, depth + 1), ("bind", (head, held), depth)])

    def _functions(self, functions, held, depth):
        if not self._check(isinstance(functions, tuple) and len(functions) > 0):
            return
        if not self._check(all([isinstance(pair, tuple) and len(pair) == 2 and is_key(pair[0]) for pair in functions])):
            return
        keys = [pair[0] for pair in functions]
        self._check(len(set(keys)) == len(keys))
        self._add_nodes(len(functions), depth)
        self._count(keys, 1)
        held.extend(keys)
        actions = []
        for _, rows in functions:
            if self._check(isinstance(rows, tuple) and len(rows) > 0):
                actions.extend([("row", row, depth) for row in rows])
        self._later(actions)

    def _bind(self, pattern, held):
        """Bind the keys of a value that has been found to have the form of a pattern."""
        keys = keys_of(pattern)
        if self._check(keys is not None):
            self._count(keys, 1)
            held.extend(keys)

    def _row(self, value, depth):
        self._add_nodes(1, depth)
        if self._check(isinstance(value, tuple) and len(value) == 3):
            self._later([("pattern", value[0], depth + 1), ("body", value, depth)])

    def _body(self, value, depth):
        """Go through a row behind its pattern."""
        pattern, guard, body = value
        held = []
        self._bind(pattern, held)
        actions = [] if guard is None else [("term", guard, depth + 1)]
        self._later([*actions, ("term", body, depth + 1), ("unbind", held, depth)])


def is_core(value):
    """Whether the value is a core term."""
    return Survey().run(value)


def survey_of(core):
    """The survey of a core term: an error if it is none."""
    survey = Survey()
    if not survey.run(core):
        raise InvalidTree("this is no core term")
    return survey


def core_nodes(core):
    """How many nodes a core term has."""
    return survey_of(core).nodes


def free_units(core):
    """The ascending tuple of the units that a core term names."""
    return tuple(sorted(survey_of(core).unit_names))
