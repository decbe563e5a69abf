"""Looking up all names of an expression, by ascending places, ahead of its typing."""

from letquay.data.looking import Names
from letquay.errors import Refused, UnknownName
from letquay.infer.parts import ROWS_AT, names_of, pattern_parts, plain_parts


class Lookup:
    """What the names in a tree mean: at each place of a name of the face, constructor or annotation what was found.

    `places` is the list of the places of all expressions and patterns, ascending.
    """

    def __init__(self, face):
        self.face = face
        self.type_names = Names(face, {}, {})
        self.found = {}
        self.places = []

    def tag(self, path, place):
        """Find a constructor or exception."""
        try:
            self.found[place] = self.face.tag(path)
        except UnknownName:
            raise Refused(("unbound", place, path)) from None

    def value(self, path, place, local):
        """Find a value, unless it is local."""
        if len(path) == 1 and path[0] in local:
            return
        try:
            self.found[place] = self.face.value(path)
        except UnknownName:
            raise Refused(("unbound", place, path)) from None


def _with_names(local, names):
    return {**local, **{name: True for name in names}}


def _carries(book, tag):
    """Whether what a path of a constructor or exception leads to carries something."""
    if tag[0] == "exn":
        return tag[1] is not None
    return book.constructors(tag[1])[tag[2]][1] is not None


def look_at_pattern(look, book, pattern, place):
    """Look up the names in a pattern."""
    look.places.append(place)
    if pattern[0] == "con":
        look.tag(pattern[1], place)
        if _carries(book, look.found[place]) != (pattern[2] is not None):
            raise Refused(("arity", place, pattern[1]))
    for steps, part in pattern_parts(pattern):
        look_at_pattern(look, book, part, (*place, *steps))


def look_at_rows(look, book, rows, place, local):
    """Look up the names in rows, which stand at a place."""
    for k, (pattern, guard, body) in enumerate(rows):
        look_at_pattern(look, book, pattern, (*place, k, 0))
        inner = _with_names(local, names_of(pattern))
        if guard is not None:
            look_at_expression(look, book, guard, (*place, k, 1), inner)
        look_at_expression(look, book, body, (*place, k, 2), inner)


def look_at_functions(look, book, functions, place, local):
    """Look up the names in functions, which stand at a place; all their names are local in them."""
    inner = _with_names(local, [name for name, _ in functions])
    for k, (_, rows) in enumerate(functions):
        look_at_rows(look, book, rows, (*place, k, 1), inner)
    return inner


def _look_at_let(look, book, tree, place, local):
    look_at_pattern(look, book, tree[1], (*place, 1))
    look_at_expression(look, book, tree[2], (*place, 2), local)
    look_at_expression(look, book, tree[3], (*place, 3), _with_names(local, names_of(tree[1])))


def look_at_expression(look, book, tree, place, local):
    """Look up the names in an expression in which some names are local."""
    look.places.append(place)
    word = tree[0]
    if word == "let":
        _look_at_let(look, book, tree, place, local)
        return
    if word == "letrec":
        inner = look_at_functions(look, book, tree[1], (*place, 1), local)
        look_at_expression(look, book, tree[2], (*place, 2), inner)
        return
    if word == "name":
        look.value(tree[1], place, local)
    elif word == "con":
        look.tag(tree[1], place)
    for steps, part in plain_parts(tree):
        look_at_expression(look, book, part, (*place, *steps), local)
    if word == "typed":
        inner = (*place, 2)
        look.found[inner] = look.type_names.type_at(tree[2], inner)
    if word in ROWS_AT:
        at = ROWS_AT[word]
        look_at_rows(look, book, tree[at], (*place, at), local)


def looked_up(book, face, tree):
    """The lookup of an expression."""
    look = Lookup(face)
    look_at_expression(look, book, tree, (), {})
    return look


def looked_up_values(book, face, tree):
    """The lookup of a declaration of values."""
    look = Lookup(face)
    if tree[0] == "val":
        look_at_pattern(look, book, tree[1], (1,))
        look_at_expression(look, book, tree[2], (2,), {})
    else:
        look_at_functions(look, book, tree[1], (1,), {})
    return look
