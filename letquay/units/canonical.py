"""Canonical order: the stamps of a face, as they are told of a unit independently of other units."""

from letquay.data.faces import maker_of
from letquay.types.books import Book
from letquay.types.shapes import children, with_makers

MANY_FIRST = 6


class Order:
    """The stamps behind the first ones, as they come."""

    def __init__(self, book):
        self.book = book
        self.stamps = {}

    def _carried(self, stamp):
        """The types that the constructors of a stamp carry, if it comes for the first time."""
        if stamp <= MANY_FIRST or stamp in self.stamps:
            return []
        self.stamps[stamp] = len(self.stamps)
        return [pair[1] for pair in self.book.constructors(stamp) or () if pair[1] is not None]

    def add_types(self, types):
        """Take the stamps of some types, each one ahead of what its constructors carry and of its arguments."""
        todo = list(types)[::-1]
        while todo:
            T = todo.pop()
            carried = self._carried(T[1]) if T[0] == "made" else []
            todo.extend([*carried, *children(T)][::-1])

    def add_face(self, face):
        """Take the stamps of the items of a face, as iteration yields them."""
        tables = {
            "constructor": face.tags, "exception": face.exceptions, "structure": face.structures, "type": face.types,
            "value": face.schemes}
        for kind, name in list(face):
            item = tables[kind][name]
            if kind == "structure":
                self.add_face(item)
            elif kind == "constructor":
                self.add_types(self._carried(item[0]))
            elif kind == "exception":
                self.add_types([] if item is None else [item])
            else:
                self.add_types([item[1] if kind == "type" else item.body])


def stamps_of(book, face):
    """The list of the stamps of a face behind the first ones, in canonical order."""
    order = Order(book)
    order.add_face(face)
    return list(order.stamps)


def moved_row(book, stamp, makers):
    """The row of a stamp, where the types of others are those of makers."""
    constructors = book.constructors(stamp)
    if constructors is not None:
        constructors = tuple([
            (name, None if T is None else with_makers(T, makers)) for name, T in constructors])
    return (book.printed(stamp), book.arity(stamp), book.asks(stamp), constructors)


def makers_to(book, numbers):
    """The makers by which stamps of a book are other ones, a dict from the old ones to the new ones."""
    return {old: maker_of(new, book.arity(old)) for old, new in numbers.items()}


def canonical_of(book, face, stamps):
    """The pair of the book that has just some stamps of another one behind the first ones, and of the face with it."""
    makers = makers_to(book, {stamp: MANY_FIRST + 1 + k for k, stamp in enumerate(stamps)})
    rows = tuple([moved_row(book, stamp, makers) for stamp in stamps])
    return Book().with_stamps(rows)[0], face.with_makers(makers)
