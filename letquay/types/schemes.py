"""Schemes: all types that come of a body when types are put in the place of its variables."""

from letquay.checks import is_ascending
from letquay.errors import InvalidBook, InvalidOperation, InvalidScheme, Refused, TooMany
from letquay.types.books import Book
from letquay.types.graphs import Graph
from letquay.types.shapes import MAX_SIZE, children, numbered, outline, replaced, variables_in, with_makers
from letquay.types.terms import (
    admits_with, are_types, check_book, check_marked, check_type, is_type, put_in, text_with,
)


def _head(T):
    return T[:2] if T[0] == "made" else (T[0], len(children(T)))


def images_of(body, T):
    """The dict of the types that make a type of a body, by variables; `None` if none do."""
    images = {}
    todo = [(body, T)]
    while todo:
        part, wanted = todo.pop()
        if part[0] == "var":
            found = images.setdefault(part[1], wanted)
            if outline(found) != outline(wanted):
                return None
        elif _head(part) != _head(wanted):
            return None
        else:
            todo.extend(list(zip(children(part), children(wanted))))
    return images


UNIT = ("tuple", ())


class Scheme:
    """A body, and which of its variables are marked. It never changes."""

    def __init__(self, book, marks, body):
        check_book(book)
        if not is_ascending(marks) or not is_type(book, body):
            raise InvalidScheme("a scheme has an ascending tuple of marks, and a type of the book")
        variables = variables_in(body)
        if variables != tuple(range(len(variables))) or not all([mark < len(variables) for mark in marks]):
            raise InvalidScheme("the variables are numbered as they first stand, and marks are some of them")
        self.marks = marks
        self.body = body
        self.total = len(variables)
        self._outline = outline(body)

    @classmethod
    def of(cls, book, T, *, marked=()):
        """The scheme of a type with all variables renumbered."""
        check_type(book, T)
        check_marked(marked)
        variables = variables_in(T)
        marks = [number for number, variable in enumerate(variables) if variable in marked]
        return cls(book, tuple(marks), replaced(T, numbered(variables)))

    def with_makers(self, makers):
        """The scheme in whose body the types of some stamps are those of their makers, or None if it gets too great."""
        T = with_makers(self.body, makers)
        return None if T is None else scheme_of_type(T, self.marks)

    def _check_body(self, book):
        """Raise an error unless the body is a type of the book."""
        check_book(book)
        if not is_type(book, self.body):
            raise InvalidBook("the body is no type of the book")

    def _check_other(self, book, other):
        if not isinstance(other, Scheme) or not is_type(book, other.body):
            raise InvalidScheme("this is no scheme of the book")

    def instance(self, book, types, *, marked=()):
        """The body with types put in."""
        self._check_body(book)
        if not are_types(book, types) or len(types) != self.total:
            raise InvalidOperation("there must be a type for each variable")
        check_marked(marked)
        for mark in self.marks:
            if not admits_with(book, types[mark], marked):
                raise Refused(("unequal", mark))
        return put_in(self.body, {number: T for number, T in enumerate(types)})

    def covers(self, book, other):
        """Whether all types for which another scheme stands are types for which this one does."""
        self._check_body(book)
        self._check_other(book, other)
        images = images_of(self.body, other.body)
        if images is None:
            return False
        return all([admits_with(book, images[mark], other.marks) for mark in self.marks])

    def common(self, book, other):
        """The scheme for just the types for which both stand, or `None`."""
        self._check_body(book)
        self._check_other(book, other)
        graph = Graph(book)
        mine = [graph.add_variable(k, k in self.marks) for k in range(self.total)]
        its = [graph.add_variable(self.total + k, k in other.marks) for k in range(other.total)]
        start = graph.add_type(self.body, mine)
        late = graph.unite(start, graph.add_type(other.body, its))
        if late is None or not graph.is_finite(start) or not graph.demand_of_parts(late):
            return None
        if graph.is_great(start):
            raise TooMany(MAX_SIZE)
        marked = [k for k, node in enumerate([*mine, *its]) if graph.free_and_marked(node)]
        return Scheme.of(book, graph.type_at(start), marked=tuple(marked))

    def text(self, book):
        """The text of the body with its marks."""
        self._check_body(book)
        return text_with(book, self.body, self.marks)

    def __eq__(self, other):
        return isinstance(other, Scheme) and self.marks == other.marks and self._outline == other._outline

    def __len__(self):
        return len(self._outline)

    def __str__(self):
        return f"scheme with {self.total} variables, {len(self.marks)} marked"


def scheme_of_type(T, marked):
    """The scheme of a type of some book, with all variables renumbered, those that are marked as marks."""
    variables = variables_in(T)
    marks = tuple([number for number, variable in enumerate(variables) if variable in marked])
    body = T if variables == tuple(range(len(variables))) else replaced(T, numbered(variables))
    scheme = Scheme(Book(), (), UNIT)
    scheme.marks = marks
    scheme.body = body
    scheme.total = len(variables)
    scheme._outline = outline(body)
    return scheme
