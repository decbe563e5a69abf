"""Functors: structures that are typed once, for all arguments."""

from letquay.checks import is_integer
from letquay.data.looking import check_scope
from letquay.errors import InvalidNumber, InvalidOperation, InvalidTree, Refused
from letquay.modules.applying import application
from letquay.modules.bases import FunctorBase, behind
from letquay.modules.scopes import check_scope_of
from letquay.modules.signatures import signature_meant
from letquay.modules.structures import structure_typed
from letquay.text.names import is_high
from letquay.text.trees import is_signature, is_structure
from letquay.types.shapes import children, nodes_of
from letquay.types.terms import check_book

FIRST_STAMPS = 6


class Functor(FunctorBase):
    """What has been typed of a functor. It never changes."""

    def __init__(self, parameter, face, made, notes, faces):
        self.greatest = max([parameter.greatest, face.greatest, *made])
        self.parameter = parameter
        self.face = face
        self._made = made
        self.notes = notes
        self._faces = faces

    @property
    def made(self):
        """The ascending tuple of the made stamps."""
        return self._made

    @property
    def faces(self):
        """The pairs (place, face) of all structures in the body."""
        return self._faces

    def __eq__(self, other):
        if not isinstance(other, Functor) or self.parameter != other.parameter or self.face != other.face:
            return False
        return self._made == other._made and self.notes == other.notes and self._faces == other._faces


def _parameter(book, scope, signature):
    try:
        return signature_meant(book, scope, signature)
    except Refused as refused:
        raise Refused(behind(refused.reason, ("signature",))) from None


def _body(book, scope, body):
    try:
        return structure_typed(book, scope, body)
    except Refused as refused:
        raise Refused(behind(refused.reason, ("body",))) from None


def typed_functor(book, scope, name, signature, body):
    """The pair of the book and of a functor."""
    check_scope_of(book, scope)
    if not is_high(name) or not is_signature(signature) or not is_structure(body):
        raise InvalidTree("a functor has a high name, a signature and a structure")
    return functor_typed(book, scope, name, signature, body)


def functor_typed(book, scope, name, signature, body):
    """What `typed_functor` tells, for what has been looked at already."""
    extended, signed = _parameter(book, scope, signature)
    result = _body(extended, scope.with_face(scope.face.with_structure(name, signed.face)), body)
    made = tuple(range(len(extended) + 1, len(result.book) + 1))
    return result.book, Functor(signed, result.face, made, result.notes, result.faces)


def applied(book, functor, found):
    """The pair of the book with the new stamps and of the face of an application."""
    check_book(book)
    if not isinstance(functor, Functor) or functor.greatest > len(book):
        raise InvalidOperation("this is no functor, or it has a stamp that the book has not")
    check_scope(book, found)
    return application(book, functor, found)


class Exchange:
    """Stamps that are exchanged one for one, in both directions; the first ones stand for themselves."""

    def __init__(self, stamps):
        self.stamps = stamps
        self.there = {}
        self.hence = {}

    def are_one(self, one, other):
        """Whether a stamp can stand for another one, from now on."""
        if one <= self.stamps or other <= self.stamps:
            return one == other
        return self.there.setdefault(one, other) == other and self.hence.setdefault(other, one) == one

    def are_types(self, one, other):
        """Whether two types are equal."""
        parts, others = nodes_of(one), nodes_of(other)
        return len(parts) == len(others) and all([self._is_like(T, U) for T, U in zip(parts, others)])

    def _is_like(self, T, U):
        """Whether two types are alike, but for what stands in them."""
        if T[0] != U[0] or len(children(T)) != len(children(U)):
            return False
        if T[0] == "made":
            return self.are_one(T[1], U[1])
        return T[0] != "var" or T[1] == U[1]

    def are_items(self, kind, one, other):
        """Whether two items of a kind are equal."""
        if kind == "structure":
            return self.are_faces(one, other)
        if kind == "value":
            return one.marks == other.marks and self.are_types(one.body, other.body)
        if kind == "constructor":
            return one[1] == other[1] and self.are_one(one[0], other[0])
        if kind == "type":
            return one[0] == other[0] and self.are_types(one[1], other[1])
        return one is None and other is None or None not in (one, other) and self.are_types(one, other)

    def are_faces(self, one, other):
        """Whether two faces are equal."""
        if list(one) != list(other):
            return False
        tables = {
            "constructor": (one.tags, other.tags), "exception": (one.exceptions, other.exceptions),
            "structure": (one.structures, other.structures), "type": (one.types, other.types),
            "value": (one.schemes, other.schemes)}
        return all([self.are_items(kind, tables[kind][0][name], tables[kind][1][name]) for kind, name in list(one)])


def is_same_up_to(book, face, other, stamps):
    """Whether two faces are equal when stamps behind the first ones of the book are exchanged one for one."""
    check_scope(book, face)
    check_scope(book, other)
    if not is_integer(stamps) or not FIRST_STAMPS <= stamps <= len(book):
        raise InvalidNumber(stamps)
    return Exchange(stamps).are_faces(face, other)
