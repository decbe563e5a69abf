"""Flattening: core terms of typed units.

The scopes and tables here are like those of runs, with what is known of constructors, exceptions and structures.
"""

from letquay.code.core import MAX_CORE, Survey, is_core
from letquay.data.faces import RESERVED_EXCEPTIONS, Face
from letquay.errors import InvalidCode, InvalidFace, InvalidOperation, TooMany
from letquay.infer.parts import names_of
from letquay.modules.programs import Program
from letquay.rules.values import base_scope, item_at, with_items

IT = ("value", "it")
PICKED = ("structure", "It")
# The key under which what an `open` hides is kept; no declaration has it.
KEPT = ("exception", "Match")


def _keys_of_face(face):
    """The ascending list of the keys of the values, exceptions and structures of a face."""
    keys = [("exception", name) for name in face.exceptions]
    keys.extend([("structure", name) for name in face.structures])
    keys.extend([("value", name) for name in face.schemes])
    return keys


def _table_of(book, face):
    """What is known of a structure with a face."""
    items = {("value", name): ("value",) for name in face.schemes}
    for name, (stamp, index) in face.tags.items():
        items[("tag", name)] = ("con", name, book.constructors(stamp)[index][1] is not None)
    for name, carried in face.exceptions.items():
        items[("tag", name)] = ("exn", name, carried is not None)
    for name, inner in face.structures.items():
        items[("structure", name)] = _table_of(book, inner)
    return ("table", items)


def _keys_of_table(table):
    """The ascending list of the keys of the values, exceptions and structures of what is known of a structure."""
    keys = []
    for (space, name), item in table[1].items():
        if space != "tag":
            keys.append((space, name))
        elif item[0] == "exn":
            keys.append(("exception", name))
    return sorted(keys)


def _path_term(kind, path):
    """The term of a path of a value, structure or exception."""
    if kind == "exception" and len(path) == 1 and path[0] in RESERVED_EXCEPTIONS:
        return ("reserved", path[0])
    if len(path) == 1:
        return ("name", (kind, path[0]))
    term = ("name", ("structure", path[0]))
    for name in path[1:-1]:
        term = ("field", term, ("structure", name))
    return ("field", term, (kind, path[-1]))


def _picked(face, term):
    """The term picked by a face."""
    fields = []
    for key in _keys_of_face(face):
        field = ("field", ("name", PICKED), key)
        fields.append((key, _picked(face.structures[key[1]], field) if key[0] == "structure" else field))
    return ("let", ((("name", PICKED), term),), ("table", tuple(fields)))


def _declared_keys(tree):
    """The keys that a declaration declares."""
    word = tree[0]
    if word == "val":
        return [("value", name) for name in names_of(tree[1])]
    if word == "rec":
        return [("value", name) for name, _ in tree[1]]
    if word in ("exception", "alias"):
        return [("exception", tree[1])]
    return [("structure", tree[1])] if word == "structure" else []


class Pairs:
    """The pairs of one list of declarations: which keys are declared, and which of them are hidden."""

    def __init__(self):
        self.found = []
        self.own_keys = {}
        self.hidden = {}

    def declare(self, keys):
        """Let some keys be declared."""
        for key in keys:
            self.own_keys[key] = True
            self.hidden.pop(key, None)

    def term_of(self, key):
        """The term of a declared key."""
        return ("field", ("name", KEPT), key) if key in self.hidden else ("name", key)

    def table(self, keys):
        """The table of some declared keys."""
        return ("table", tuple([(key, self.term_of(key)) for key in sorted(keys)]))

    def open_all(self, keys, term):
        """Open a structure with some keys."""
        new = [key for key in keys if key in self.own_keys and key not in self.hidden]
        if new:
            self.found.append((("name", KEPT), self.table([*list(self.hidden), *new])))
            self.hidden.update({key: True for key in new})
        if len(keys) == 1:
            self.found.append((("name", keys[0]), ("field", term, keys[0])))
        elif keys:
            names = tuple([("name", key) for key in keys])
            self.found.append((("tuple", names), ("tuple", tuple([("field", term, key) for key in keys]))))

    def term(self):
        """The term of the whole list."""
        table = self.table(list(self.own_keys))
        return ("let", tuple(self.found), table) if self.found else table


class Flattening:
    """Goes through the declarations of a typed unit."""

    def __init__(self, program):
        self.book = program.book
        self.face_at = {place: face for place, face in program.faces}
        self.made_once = program.functors
        self.many_picked = 0

    def pick(self, face, term):
        """The term picked by a face: an error if all that is picked is too much."""
        self.many_picked += len(face)
        if self.many_picked > MAX_CORE:
            raise TooMany(MAX_CORE)
        return _picked(face, term)

    def list_term(self, trees, scope, place):
        """The term of declarations, which stand side by side below a place."""
        pairs = Pairs()
        for k, tree in enumerate(trees):
            scope = with_items(scope, self._declaration(pairs, tree, scope, (*place, k)))
        return pairs.term()

    def _declaration(self, pairs, tree, scope, place):
        """The items that a declaration brings into scope; its pairs are added."""
        word = tree[0]
        items = {}
        if word == "open":
            table = item_at(scope, "structure", tree[1])
            pairs.open_all(_keys_of_table(table), _path_term("structure", tree[1]))
            return table[1]
        if word == "val":
            pairs.found.append((_pattern(tree[1], scope), expression(tree[2], scope)))
        elif word == "rec":
            pairs.found.append((None, _functions(tree[1], scope)))
        elif word == "data":
            items = {
                ("tag", name): ("con", name, carried is not None)
                for _, _, constructors in tree[1] for name, carried in constructors}
        elif word == "exception":
            items = {("tag", tree[1]): ("exn", tree[1], tree[2] is not None)}
            pairs.found.append((("name", ("exception", tree[1])), ("exception", tree[1])))
        elif word == "alias":
            items = {("tag", tree[1]): item_at(scope, "tag", tree[2])}
            pairs.found.append((("name", ("exception", tree[1])), _path_term("exception", tree[2])))
        elif word == "structure":
            inner = (*place, 2)
            pairs.found.append((("name", ("structure", tree[1])), self.structure(tree[2], scope, inner)))
            items = {("structure", tree[1]): _table_of(self.book, self.face_at[inner])}
        elif word == "functor":
            pairs.found.append((("name", ("functor", tree[1])), self._functor(tree, scope, place)))
        pairs.declare(_declared_keys(tree))
        return items

    def _functor(self, tree, scope, place):
        known = _table_of(self.book, self.made_once[tree[1]].parameter.face)
        body = self.structure(tree[4], with_items(scope, {("structure", tree[2]): known}), (*place, 4))
        return ("fn", ((("name", ("structure", tree[2])), None, body),))

    def structure(self, tree, scope, place):
        """The term of a structure, which stands at a place."""
        word = tree[0]
        if word == "struct":
            return self.list_term(tree[1], scope, (*place, 1))
        if word == "at":
            return _path_term("structure", tree[1])
        if word == "apply":
            argument = self.structure(tree[2], scope, (*place, 2))
            face = self.made_once[tree[1]].parameter.face
            return ("call", ("name", ("functor", tree[1])), self.pick(face, argument))
        return self.pick(self.face_at[place], self.structure(tree[1], scope, (*place, 1)))


def _built(path, tag, inner):
    """What a constructor or exception builds of a term, or of nothing."""
    return ("con", path[-1], inner) if tag[0] == "con" else ("packet", _path_term("exception", path), inner)


def _tag(path, scope):
    """The term of a constructor or exception by itself."""
    tag = item_at(scope, "tag", path)
    if not tag[2]:
        return _built(path, tag, None)
    return ("fn", ((("name", IT), None, _built(path, tag, ("name", IT))),))


def _pattern(tree, scope):
    """The core pattern of a pattern."""
    word = tree[0]
    if word == "name":
        return ("name", ("value", tree[1]))
    if word == "as":
        return ("as", ("value", tree[1]), _pattern(tree[2], scope))
    if word == "tuple":
        return ("tuple", tuple([_pattern(part, scope) for part in tree[1]]))
    if word == "or":
        return ("or", _pattern(tree[1], scope), _pattern(tree[2], scope))
    if word == "con":
        inner = None if tree[2] is None else _pattern(tree[2], scope)
        return _built(tree[1], item_at(scope, "tag", tree[1]), inner)
    return tree


def _rows(rows, scope):
    return tuple([
        (_pattern(pattern, scope), None if guard is None else expression(guard, scope), expression(body, scope))
        for pattern, guard, body in rows])


def _functions(functions, scope):
    return tuple([(("value", name), _rows(rows, scope)) for name, rows in functions])


def _call(tree, scope):
    if tree[1][0] != "con":
        return ("call", expression(tree[1], scope), expression(tree[2], scope))
    path = tree[1][1]
    return _built(path, item_at(scope, "tag", path), expression(tree[2], scope))


def expression(tree, scope):
    """The core term of an expression."""
    word = tree[0]
    if word in ("int", "string"):
        return tree
    if word == "name":
        return _path_term("value", tree[1])
    if word == "con":
        return _tag(tree[1], scope)
    if word in ("tuple", "op"):
        return (*tree[:-1], tuple([expression(part, scope) for part in tree[-1]]))
    if word == "fn":
        return ("fn", _rows(tree[1], scope))
    if word == "call":
        return _call(tree, scope)
    if word == "let":
        return ("let", ((_pattern(tree[1], scope), expression(tree[2], scope)),), expression(tree[3], scope))
    if word == "letrec":
        return ("let", ((None, _functions(tree[1], scope)),), expression(tree[2], scope))
    if word in ("case", "handle"):
        return (word, expression(tree[1], scope), _rows(tree[2], scope))
    if word == "typed":
        return expression(tree[1], scope)
    return (word, *[expression(part, scope) for part in tree[1:]])


def flattened(program):
    """The core term of a program."""
    if not isinstance(program, Program):
        raise InvalidOperation("this is no program")
    uses = {("structure", name): _table_of(program.book, face) for name, face in program.uses.items()}
    flattening = Flattening(program)
    term = flattening.list_term(program.declarations, with_items(base_scope(), uses), ())
    if program.signature is not None:
        term = flattening.pick(program.face, term)
    if not Survey().run(term):
        raise TooMany(MAX_CORE)
    return term


def picked(face, term):
    """A core term picked by a face."""
    if not isinstance(face, Face):
        raise InvalidFace("this is no face")
    if not is_core(term):
        raise InvalidCode("this is no core term")
    return _picked(face, term)
