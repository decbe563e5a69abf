"""Structures: their faces, and the typings of all declarations of values in them."""

from letquay.data.faces import Face, is_reserved_tag
from letquay.data.looking import exception_declared, group_declared, type_declared
from letquay.errors import InvalidTree, Refused, UnknownName
from letquay.infer.declarations import values_typed
from letquay.modules.applying import application
from letquay.modules.bases import behind, placed
from letquay.modules.matching import face_fitted, face_sealed
from letquay.modules.scopes import check_scope_of
from letquay.modules.signatures import item_at, signature_meant
from letquay.text.trees import is_structure

# Where the trees stand that the functions for declarations of types are about.
INSIDE = {"type": (3,), "data": (1,), "exception": (2,)}


class TypedStructure:
    """The face of a structure, the book with all new stamps, and what was typed in it."""

    def __init__(self, book, face, notes, faces):
        self.book = book
        self.face = face
        self.notes = notes
        self._faces = faces

    @property
    def faces(self):
        """The pairs (place, face) of all structures in it."""
        return self._faces


class Course:
    """Goes through structures; `book` is that with all stamps so far."""

    def __init__(self, book):
        self.book = book
        self.notes = []
        self.face_notes = []

    def result(self, face):
        """What has been typed, with a face."""
        return TypedStructure(self.book, face, tuple(self.notes), tuple(self.face_notes))

    def structure(self, scope, tree, place):
        """The face of a structure, which stands at a place."""
        word = tree[0]
        if word == "struct":
            face = self.declared(scope, tree[1], (*place, 1))
        elif word == "at":
            face = structure_at(scope, tree[1], place)
        elif word == "apply":
            face = self._applied(scope, tree, place)
        else:
            face = self._seal_or_fit(scope, tree, place)
        self.face_notes.append((place, face))
        return face

    def _applied(self, scope, tree, place):
        functor = scope.functors.get(tree[1])
        if functor is None:
            raise Refused(("unbound", place, (tree[1],)))
        found = self.structure(scope, tree[2], (*place, 2))
        try:
            self.book, face = application(self.book, functor, found)
        except Refused as refused:
            raise Refused(placed(refused.reason, place)) from None
        return face

    def signed_at(self, scope, tree, place):
        """The signed face of a signature, which stands at a place."""
        try:
            self.book, signed = signature_meant(self.book, scope, tree)
        except Refused as refused:
            raise Refused(behind(refused.reason, place)) from None
        return signed

    def seal(self, found, signed, place):
        """A sealed face; what does not match is told at a place."""
        try:
            self.book, face = face_sealed(self.book, found, signed)
        except Refused as refused:
            raise Refused(placed(refused.reason, place)) from None
        return face

    def _seal_or_fit(self, scope, tree, place):
        found = self.structure(scope, tree[1], (*place, 1))
        signed = self.signed_at(scope, tree[2], (*place, 2))
        if tree[0] == "seal":
            return self.seal(found, signed, place)
        try:
            return face_fitted(self.book, found, signed)
        except Refused as refused:
            raise Refused(placed(refused.reason, place)) from None

    def declared(self, scope, trees, place):
        """The face of declarations, which stand side by side below a place."""
        declaring = Declaring(self, scope)
        for k, tree in enumerate(trees):
            declaring.declare(tree, (*place, k))
        return declaring.face


def structure_at(scope, path, place):
    """The face of the structure to which a path leads."""
    item = item_at(scope.face, "structure", path)
    if item is None:
        raise Refused(("unbound", place, path))
    return item[1]


def _declared_names(tree):
    """The pairs (name space, name) of what can be declared once, in order, that a declaration has."""
    word = tree[0]
    if word == "data":
        found = []
        for _, name, constructors in tree[1]:
            found.append(("type", name))
            found.extend([("exception", tag) for tag, _ in constructors])
        return found
    if word == "type":
        return [("type", tree[2])]
    if word in ("exception", "alias"):
        return [("exception", tree[1])]
    return [("structure", tree[1])] if word == "structure" else []


class Declaring:
    """Declarations of one list: the scope as the next one sees it, and the face of what has been declared."""

    def __init__(self, course, scope):
        self.course = course
        self.scope = scope
        self.face = Face()

    def declare(self, tree, place):
        """Go through a declaration, which stands at a place."""
        for kind, name in _declared_names(tree):
            if item_at(self.face, kind, (name,)) is not None:
                raise Refused(("twice", place, name))
        word = tree[0]
        if word == "open":
            self.scope = self.scope.opened(structure_at(self.scope, tree[1], place))
            return
        if word in ("val", "rec"):
            face = self._values(tree, place)
        elif word == "structure":
            inner = self.course.structure(self.scope, tree[2], (*place, 2))
            face = Face().with_structure(tree[1], inner)
        elif word == "alias":
            face = self._alias(tree, place)
        else:
            face = self._types(tree, place)
        self.face = self.face.opened(face)
        self.scope = self.scope.opened(face)

    def _values(self, tree, place):
        try:
            note = values_typed(self.course.book, self.scope.face, tree)
        except Refused as refused:
            raise Refused(behind(refused.reason, place)) from None
        self.course.notes.append((place, note))
        face = Face()
        for name, scheme in note.names.items():
            face = face.with_value(name, scheme)
        return face

    def _alias(self, tree, place):
        if is_reserved_tag(tree[1]):
            raise Refused(("twice", place, tree[1]))
        try:
            tag = self.scope.face.tag(tree[2])
        except UnknownName:
            raise Refused(("unbound", place, tree[2])) from None
        if tag[0] != "exn":
            raise Refused(("unbound", place, tree[2]))
        return Face().with_exception(tree[1], tag[1])

    def _types(self, tree, place):
        """The face of a declaration of a type, group or exception; a reserved name is told at its place itself."""
        try:
            return self._declared_types(tree)
        except Refused as refused:
            reason = refused.reason
            if tree[0] != "data" and reason[0] == "twice":
                raise Refused(("twice", place, reason[2])) from None
            raise Refused(behind(reason, (*place, *INSIDE[tree[0]]))) from None

    def _declared_types(self, tree):
        course, seen = self.course, self.scope.face
        if tree[0] == "type":
            return type_declared(seen, tree[1], tree[2], tree[3])
        if tree[0] == "exception":
            return exception_declared(seen, tree[1], tree[2])
        course.book, face = group_declared(course.book, seen, tree[1])
        return face


def typed_structure(book, scope, tree):
    """The typed structure of a structure tree."""
    check_scope_of(book, scope)
    if not is_structure(tree):
        raise InvalidTree("this is no structure")
    return structure_typed(book, scope, tree)


def structure_typed(book, scope, tree):
    """What `typed_structure` tells, for what has been looked at already."""
    course = Course(book)
    face = course.structure(scope, tree, ())
    return course.result(face)


def typed_declarations(book, scope, trees):
    """The typed structure of a tuple of declarations."""
    check_scope_of(book, scope)
    if not is_structure(("struct", trees)):
        raise InvalidTree("these are no declarations of a structure")
    course = Course(book)
    face = course.declared(scope, trees, ())
    return course.result(face)
