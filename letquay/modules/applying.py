"""Applying functors: what a body is with the types of an argument put in."""

from letquay.data.copies import copied_stamps
from letquay.errors import Refused
from letquay.modules.matching import realization_of


def application(book, functor, found):
    """The pair of the book with the new stamps and of the face of an application to a structure with a face."""
    makers = realization_of(book, found, functor.parameter)
    extended, whole, empty = copied_stamps(book, functor.made, makers)
    face = functor.face.with_makers(whole)
    if empty:
        raise Refused(("empty", empty[0]))
    return extended, face
