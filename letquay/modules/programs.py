"""Programs: units that have been typed."""

from letquay.data.faces import Face, base_face
from letquay.errors import InvalidFace, InvalidTree, Refused
from letquay.modules.functors import functor_typed
from letquay.modules.scopes import Scope
from letquay.modules.structures import Course, Declaring
from letquay.text.names import is_high
from letquay.text.trees import is_signature, is_unit
from letquay.types.books import Book
from letquay.types.terms import check_book

# Where the signature and the body of a functor stand in its declaration.
FUNCTOR_PARTS = {"signature": 3, "body": 4}


class Program:
    """What has been typed of a unit. It never changes."""

    def __init__(self, unit, result, face, tables):
        self.declarations, self.signature, self._uses = unit
        self.book = result.book
        self.inner = result.face
        self.notes = result.notes
        self._faces = result.faces
        self.face = face
        self._signatures, self._functors = tables

    @property
    def faces(self):
        """The pairs (place, face) of all structures."""
        return self._faces

    @property
    def uses(self):
        """The faces of the used units, by names."""
        return dict(self._uses)

    @property
    def signatures(self):
        """The signed faces that are declared, by names."""
        return dict(self._signatures)

    @property
    def functors(self):
        """The functors that are declared, by names."""
        return dict(self._functors)

    def __eq__(self, other):
        if not isinstance(other, Program) or self.book != other.book or self._uses != other._uses:
            return False
        return self.declarations == other.declarations and self.signature == other.signature


def _check_uses(book, uses):
    if not isinstance(uses, dict):
        raise InvalidFace("used units are a dict from high names to faces")
    for name, face in uses.items():
        if not is_high(name) or not isinstance(face, Face) or face.greatest > len(book):
            raise InvalidFace("used units are a dict from high names to faces for the book")


class UnitCourse:
    """Goes through the declarations of a unit."""

    def __init__(self, book, scope, uses):
        self.course = Course(book)
        self.declaring = Declaring(self.course, scope)
        self.used = uses
        self.signed = {}
        self.made_once = {}

    def copied(self):
        """An equal one that goes on by itself."""
        unit = UnitCourse(self.course.book, self.declaring.scope, self.used)
        course, declaring = unit.course, unit.declaring
        course.notes, course.face_notes = list(self.course.notes), list(self.course.face_notes)
        declaring.face = self.declaring.face
        unit.signed, unit.made_once = dict(self.signed), dict(self.made_once)
        return unit

    def as_program(self, declarations, signature, face):
        """The program of the declarations that it has gone through, with this face."""
        tables = _ascending(self.signed), _ascending(self.made_once)
        inner = self.declaring.face
        return Program((declarations, signature, _ascending(self.used)), self.course.result(inner), face, tables)

    def declare(self, tree, place):
        """Go through a declaration, which stands at a place."""
        word = tree[0]
        if word in ("signature", "functor"):
            if tree[1] in (self.signed if word == "signature" else self.made_once):
                raise Refused(("twice", place, tree[1]))
            if word == "signature":
                self._signature(tree, place)
            else:
                self._functor(tree, place)
            return
        if word == "structure" and tree[1] in self.used:
            raise Refused(("twice", place, tree[1]))
        self.declaring.declare(tree, place)

    def _signature(self, tree, place):
        declaring = self.declaring
        signed = self.course.signed_at(declaring.scope, tree[2], (*place, 2))
        self.signed[tree[1]] = signed
        declaring.scope = declaring.scope.with_signature(tree[1], signed)

    def _functor(self, tree, place):
        course, declaring = self.course, self.declaring
        try:
            book, functor = functor_typed(course.book, declaring.scope, tree[2], tree[3], tree[4])
        except Refused as refused:
            word, (part, *rest), *more = refused.reason
            raise Refused((word, (*place, FUNCTOR_PARTS[part], *rest), *more)) from None
        self.made_once[tree[1]] = functor
        course.book = book
        course.notes.extend([((*place, 4, *inner), note) for inner, note in functor.notes])
        course.face_notes.extend([((*place, 4, *inner), face) for inner, face in functor.faces])
        declaring.scope = declaring.scope.with_functor(tree[1], functor)


def _ascending(table):
    return {name: table[name] for name in sorted(table)}


def begun_unit(book, uses):
    """The course of a unit ahead of its declarations."""
    face = base_face()
    for name in sorted(uses):
        face = face.with_structure(name, uses[name])
    return UnitCourse(book, Scope(face), uses)


def typed_unit(declarations, *, signature=None, book=None, uses=None):
    """The program of a unit."""
    if not is_unit(declarations) or signature is not None and not is_signature(signature):
        raise InvalidTree("this is no unit, or no signature")
    if book is None:
        book = Book()
    check_book(book)
    if uses is None:
        uses = {}
    _check_uses(book, uses)
    unit = begun_unit(book, uses)
    scope = unit.declaring.scope
    for k, tree in enumerate(declarations):
        unit.declare(tree, (k,))
    face = unit.declaring.face
    if signature is not None:
        signed = unit.course.signed_at(scope, signature, ("signature",))
        face = unit.course.seal(face, signed, ("signature",))
    return unit.as_program(declarations, signature, face)
