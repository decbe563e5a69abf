"""Copies of stamps, with other types put in what their constructors carry."""

from letquay.data.faces import maker_of
from letquay.data.groups import empty_ones, with_least_asks
from letquay.errors import TooMany
from letquay.types.shapes import MAX_SIZE, with_makers


def _put(T, makers):
    if T is None:
        return None
    found = with_makers(T, makers)
    if found is None:
        raise TooMany(MAX_SIZE)
    return found


def _copied_rows(book, stamps, makers):
    """The rows of new stamps in the place of some."""
    rows = []
    for stamp in stamps:
        constructors = book.constructors(stamp)
        if constructors is not None:
            constructors = tuple([(name, _put(T, makers)) for name, T in constructors])
        rows.append((book.printed(stamp), book.arity(stamp), book.asks(stamp), constructors))
    return rows


def makers_of_new(book, stamps):
    """The makers by which stamps, that come next in a book, stand in the place of others."""
    return {stamp: maker_of(len(book) + 1 + k, book.arity(stamp)) for k, stamp in enumerate(stamps)}


def renewed_stamps(book, stamps):
    """The pair of the book with new stamps that are like some, and of the makers of these."""
    makers = makers_of_new(book, stamps)
    return book.with_stamps(tuple(_copied_rows(book, stamps, makers)))[0], makers


def copied_stamps(book, stamps, makers):
    """New stamps in the place of some, where the types of others are those of makers, with asks reckoned anew.

    The triple of the book, of the makers with those of the new stamps, and of the printed names of those that do not
    live any more.
    """
    whole = {**makers, **makers_of_new(book, stamps)}
    extended, new = with_least_asks(book, _copied_rows(book, stamps, whole))
    return extended, whole, [extended.printed(new[k]) for k in empty_ones(extended, new)]
