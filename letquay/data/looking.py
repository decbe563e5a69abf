"""Looking: what the trees of types mean in a scope, and what declarations of types declare."""

from letquay.data.faces import Face, is_reserved_tag, is_reserved_type, maker_of
from letquay.data.groups import extended_by
from letquay.errors import InvalidFace, InvalidOperation, InvalidTree, Refused, TooMany, UnknownName
from letquay.text.names import is_high, is_low
from letquay.text.trees import is_tree
from letquay.types.schemes import scheme_of_type
from letquay.types.shapes import MAX_SIZE, all_in
from letquay.types.terms import check_book, put_in


def check_scope(book, scope):
    """Raise an error unless they are a book and a face for it."""
    check_book(book)
    if not isinstance(scope, Face) or scope.greatest > len(book):
        raise InvalidFace("this is no face, or it has a stamp that the book has not")


def _check_tree(tree, sort):
    if not is_tree(tree, sort):
        raise InvalidTree("this is no tree, parameters or group")


def _check_name(truth):
    if not truth:
        raise InvalidTree("this is no name of the kind that is declared here")


def _bounded(T):
    """The type itself: `TooMany` if it is too great."""
    if len(all_in(T)) > MAX_SIZE:
        raise TooMany(MAX_SIZE)
    return T


class Names:
    """What the names in a tree of a type mean: variables, by pairs (word, name), types of a group, and the scope."""

    def __init__(self, scope, variables, group):
        self.scope = scope
        self.variables = variables
        self.group = group

    def variable(self, tree, place):
        """The variable that a tree stands for."""
        number = self.variables.get(tree)
        if number is None:
            raise Refused(("unbound", place, (tree[1],)))
        return ("var", number)

    def maker_at(self, path, place):
        """The maker to which a path leads."""
        if len(path) == 1 and path[0] in self.group:
            return self.group[path[0]]
        try:
            return self.scope.maker(path)
        except UnknownName:
            raise Refused(("unbound", place, path)) from None

    def type_at(self, tree, place):
        """The type of a tree, which stands at a place."""
        word = tree[0]
        if word in ("var", "eqvar"):
            return self.variable(tree, place)
        if word == "fn":
            return _bounded(("fn", self.type_at(tree[1], (*place, 1)), self.type_at(tree[2], (*place, 2))))
        if word == "tuple":
            return _bounded(("tuple", self.types_at(tree[1], (*place, 1))))
        count, body = self.maker_at(tree[1], place)
        if count != len(tree[2]):
            raise Refused(("arity", place, tree[1]))
        types = self.types_at(tree[2], (*place, 2))
        return put_in(body, {number: T for number, T in enumerate(types)})

    def types_at(self, trees, place):
        """The types of trees, which stand side by side below a place."""
        return tuple([self.type_at(tree, (*place, index)) for index, tree in enumerate(trees)])


def _parameters(names):
    """The variables for the names of parameters."""
    return {("var", name): number for number, name in enumerate(names)}


def type_meant(scope, tree, variables):
    """What `type_of_tree` tells, for what has been looked at already."""
    return Names(scope, _parameters(variables), {}).type_at(tree, ())


def type_of_tree(book, scope, tree, *, variables=()):
    """The type of a tree, in which the variables with these names can stand."""
    check_scope(book, scope)
    _check_tree(tree, "type")
    if not is_tree(variables, "parameters"):
        raise InvalidOperation("variables are a tuple of at most four different low names")
    return type_meant(scope, tree, variables)


def _variables_in_tree(tree, found):
    """Note the variables in a tree, as they first stand in it."""
    if tree[0] in ("var", "eqvar"):
        found.setdefault(tree, len(found))
        return
    parts = tree[1:] if tree[0] == "fn" else tree[-1]
    for part in parts:
        _variables_in_tree(part, found)


def scheme_meant(scope, tree):
    """What `scheme_of_tree` tells, for what has been looked at already."""
    variables = {}
    _variables_in_tree(tree, variables)
    T = Names(scope, variables, {}).type_at(tree, ())
    return scheme_of_type(T, [number for part, number in variables.items() if part[0] == "eqvar"])


def scheme_of_tree(book, scope, tree):
    """The scheme of a tree in which all variables are general."""
    check_scope(book, scope)
    _check_tree(tree, "type")
    return scheme_meant(scope, tree)


def type_declared(scope, params, name, tree):
    """What `declared_type` tells, for what has been looked at already."""
    if is_reserved_type(name):
        raise Refused(("twice", (), name))
    return Face().with_known_type(name, (len(params), type_meant(scope, tree, params)))


def declared_type(book, scope, params, name, tree):
    """The face with one type alone."""
    check_scope(book, scope)
    _check_tree(params, "parameters")
    _check_name(is_low(name))
    _check_tree(tree, "type")
    return type_declared(scope, params, name, tree)


def exception_declared(scope, name, tree):
    """What `declared_exception` tells, for what has been looked at already."""
    if is_reserved_tag(name):
        raise Refused(("twice", (), name))
    return Face().with_exception(name, None if tree is None else type_meant(scope, tree, ()))


def declared_exception(book, scope, name, tree):
    """The face with one exception alone."""
    check_scope(book, scope)
    _check_name(is_high(name))
    if tree is not None:
        _check_tree(tree, "type")
    return exception_declared(scope, name, tree)


def _check_names(group):
    """Refuse the first name of a group that is reserved or stands ahead in it."""
    types, tags = {}, {}
    for row, (_, name, constructors) in enumerate(group):
        if is_reserved_type(name) or name in types:
            raise Refused(("twice", (row,), name))
        types[name] = True
        for index, (tag, _) in enumerate(constructors):
            if is_reserved_tag(tag) or tag in tags:
                raise Refused(("twice", (row, 2, index), tag))
            tags[tag] = True


def _carried(scope, row, makers, params, constructors):
    """The constructors of a row of a group, with the types that they carry."""
    names = Names(scope, _parameters(params), makers)
    return tuple([
        (tag, None if tree is None else names.type_at(tree, (row, 2, index, 1)))
        for index, (tag, tree) in enumerate(constructors)])


def _face_of_group(group, makers, stamps):
    """The face with the types and constructors of a group alone."""
    face = Face()
    for (_, name, constructors), stamp in zip(group, stamps):
        face = face.with_type(name, makers[name])
        for index, (tag, _) in enumerate(constructors):
            face = face.with_constructor(tag, stamp, index)
    return face


def declared_group(book, scope, group):
    """The pair of the book with the stamps of a group, and of the face with its types and constructors alone."""
    check_scope(book, scope)
    _check_tree(group, "group")
    return group_declared(book, scope, group)


def group_declared(book, scope, group):
    """What `declared_group` tells, for what has been looked at already."""
    _check_names(group)
    first = len(book) + 1
    makers = {name: maker_of(first + row, len(params)) for row, (params, name, _) in enumerate(group)}
    draft = [
        (name, len(params), _carried(scope, row, makers, params, constructors))
        for row, (params, name, constructors) in enumerate(group)]
    extended, stamps, empty = extended_by(book, tuple(draft))
    if empty:
        raise Refused(("empty", (empty[0],), group[empty[0]][1]))
    return extended, _face_of_group(group, makers, stamps)
