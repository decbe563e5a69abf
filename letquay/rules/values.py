"""Values of runs, the scopes in which names are looked up, and what meets a pattern.

A value is one of the tuples ("int", n), ("string", s), ("tuple", values), ("con", C, value or None), ("fn", rows,
scope), ("build", word, what) for a constructor or exception by itself, ("ref", cell), ("packet", number, value or
None), or ("table", items). None is ever changed; what a reference has is kept by the run, as are exceptions' names.

A scope is a pair (items, outer scope), or `None`. Items are known by pairs (space, name), where constructors and
exceptions are one space, "tag". A function of a group stands there as ("rows", rows), as it has the scope itself.
"""

from letquay.data.faces import RESERVED_EXCEPTIONS

UNIT = ("tuple", ())
TRUE = ("con", "True", None)
FALSE = ("con", "False", None)

BASE_ITEMS = {
    ("tag", "True"): ("con", "True", False), ("tag", "False"): ("con", "False", False),
    ("tag", "Nil"): ("con", "Nil", False), ("tag", "Cons"): ("con", "Cons", True),
    ("tag", "Match"): ("exn", 0, False), ("tag", "Div"): ("exn", 1, False),
    ("tag", "Size"): ("exn", 2, False), ("tag", "End"): ("exn", 3, False),
}


def base_scope():
    """The scope of the reserved constructors and exceptions."""
    return (dict(BASE_ITEMS), None)


def reserved_packet(name):
    """The value of a reserved exception."""
    return ("packet", RESERVED_EXCEPTIONS.index(name), None)


def truth(value):
    """The value of a truth."""
    return TRUE if value else FALSE


def with_items(scope, items):
    """The scope with some items more."""
    return (items, scope) if items else scope


def with_values(scope, bound):
    """The scope with the values of some names."""
    return with_items(scope, {("value", name): value for name, value in bound.items()})


def with_functions(scope, functions):
    """The scope with the functions of a group, which see one another."""
    return ({("value", name): ("rows", rows) for name, rows in functions}, scope)


def item_of(scope, space, name):
    """The item of a name."""
    key = (space, name)
    while key not in scope[0]:
        scope = scope[1]
    item = scope[0][key]
    return ("fn", item[1], scope) if item[0] == "rows" else item


def item_at(scope, space, path):
    """The item to which a path leads."""
    if len(path) == 1:
        return item_of(scope, space, path[0])
    table = item_of(scope, "structure", path[0])
    for name in path[1:-1]:
        table = table[1][("structure", name)]
    return table[1][(space, path[-1])]


def value_of_tag(tag):
    """The value that a constructor or exception is by itself."""
    word, what, carries = tag
    if carries:
        return ("build", word, what)
    return ("con", what, None) if word == "con" else ("packet", what, None)


def built(builder, value):
    """What a constructor or exception builds."""
    _, word, what = builder
    return ("con", what, value) if word == "con" else ("packet", what, value)


def _is_tagged(value, tag):
    """Whether a value is one of a constructor or exception."""
    return value[0] == ("con" if tag[0] == "con" else "packet") and value[1] == tag[1]


def is_met(value, pattern, scope, bound):
    """Whether a value meets a pattern; what it binds by the first alternative that it meets comes into a dict."""
    word = pattern[0]
    if word in ("name", "as"):
        bound[pattern[1]] = value
    if word in ("any", "name"):
        return True
    if word in ("int", "string"):
        return value[1] == pattern[1]
    if word == "as":
        return is_met(value, pattern[2], scope, bound)
    if word == "or":
        return is_met(value, pattern[1], scope, bound) or is_met(value, pattern[2], scope, bound)
    if word == "tuple":
        return all([is_met(inner, part, scope, bound) for inner, part in zip(value[1], pattern[1])])
    if not _is_tagged(value, item_at(scope, "tag", pattern[1])):
        return False
    return pattern[2] is None or is_met(value[2], pattern[2], scope, bound)
