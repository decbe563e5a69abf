"""Texts of signatures, structures and units, typed over the reserved names."""

from letquay.data.faces import base_face
from letquay.errors import Refused
from letquay.modules.programs import typed_unit
from letquay.modules.scopes import Scope
from letquay.modules.signatures import signed_face
from letquay.modules.structures import typed_structure
from letquay.text.reader import read_signature, read_structure, read_unit
from letquay.types.books import Book
from letquay.types.terms import type_text

BASE = base_face()
SCOPE = Scope(BASE)
INT, STRING, BOOL = ("made", 1, ()), ("made", 2, ()), ("made", 3, ())


def var(n):
    return ("var", n)


def made(stamp, *args):
    return ("made", stamp, args)


def signed(text, book=None, scope=SCOPE):
    """The pair of the book and of the signed face of a text."""
    return signed_face(Book() if book is None else book, scope, read_signature(text))


def structure(text, book=None, scope=SCOPE):
    return typed_structure(Book() if book is None else book, scope, read_structure(text))


def unit(text, **more):
    return typed_unit(read_unit(text), **more)


def reason_of(call, *args, **more):
    """The reason of a refusal, or None if there is none."""
    try:
        call(*args, **more)
    except Refused as refused:
        return refused.reason
    return None


def values(book, face):
    """The texts of the schemes of a face."""
    return {name: scheme.text(book) for name, scheme in face.schemes.items()}


def types(book, face):
    """The texts of the makers of a face, with their stamps."""
    return {name: type_text(book, T) for name, (_, T) in face.types.items()}
