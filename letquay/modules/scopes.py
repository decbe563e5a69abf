"""Scopes: what can be named at a place."""

from letquay.data.faces import Face
from letquay.errors import InvalidFace, InvalidScope
from letquay.modules.bases import FunctorBase, SignedBase
from letquay.text.names import is_high
from letquay.types.terms import check_book


def _check_signature(name, value):
    if not is_high(name) or not isinstance(value, SignedBase):
        raise InvalidScope("a signature is a signed face with a high name")


def _check_functor(name, value):
    if not is_high(name) or not isinstance(value, FunctorBase):
        raise InvalidScope("a functor has a high name")


def _table(value):
    """The dict of signatures or functors that was passed; `None` stands for none."""
    if value is None:
        return {}
    if not isinstance(value, dict):
        raise InvalidScope("signatures and functors are dicts")
    return value


def _ascending(table):
    return {name: table[name] for name in sorted(table)}


class Scope:
    """A face, signatures and functors. It never changes."""

    def __init__(self, face, *, signatures=None, functors=None):
        if not isinstance(face, Face):
            raise InvalidFace("this is no face")
        for name, signed in _table(signatures).items():
            _check_signature(name, signed)
        for name, functor in _table(functors).items():
            _check_functor(name, functor)
        self.face = face
        self._signatures = _ascending(_table(signatures))
        self._functors = _ascending(_table(functors))
        tables = [*list(self._signatures.values()), *list(self._functors.values())]
        # The greatest stamp in the scope, or 0.
        self.greatest = max([face.greatest, *[entry.greatest for entry in tables]])

    @property
    def signatures(self):
        """The signed faces, by names."""
        return dict(self._signatures)

    @property
    def functors(self):
        """The functors, by names."""
        return dict(self._functors)

    def with_face(self, face):
        """The scope with another face."""
        return Scope(face, signatures=self._signatures, functors=self._functors)

    def with_signature(self, name, signed):
        """The scope with a signature."""
        _check_signature(name, signed)
        return Scope(self.face, signatures={**self._signatures, name: signed}, functors=self._functors)

    def with_functor(self, name, functor):
        """The scope with a functor."""
        _check_functor(name, functor)
        return Scope(self.face, signatures=self._signatures, functors={**self._functors, name: functor})

    def opened(self, other):
        """The scope with all of a face over its own."""
        return self.with_face(self.face.opened(other))

    def __eq__(self, other):
        if not isinstance(other, Scope) or self.face != other.face:
            return False
        return self._signatures == other._signatures and self._functors == other._functors


def check_scope_of(book, scope):
    """Raise an error unless they are a book and a scope for it."""
    check_book(book)
    if not isinstance(scope, Scope) or scope.greatest > len(book):
        raise InvalidScope("this is no scope, or it has a stamp that the book has not")
