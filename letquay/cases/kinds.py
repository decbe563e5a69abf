"""Kinds: types with all types inside of their values, by numbers.

What constructors carry can grow without end, as in `'a t = C of ('a * 'a) t`. So each type has a number, equal ones
the same, and what stands in a type is told by numbers, too.
"""

from letquay.errors import UnknownName
from letquay.types.shapes import children

SORTS = {1: "int", 2: "string", 4: "exn"}


class Kinds:
    """The types of a book that have been met so far, and the exceptions of a face."""

    def __init__(self, book, face):
        self.book = book
        self.face = face
        # For each type its word, its stamp or the number of its variable or 0, and the numbers of its parts.
        self.rows = []
        self.known = {}
        self.carried = {}

    def _add_row(self, row):
        if row not in self.known:
            self.known[row] = len(self.rows)
            self.rows.append(row)
        return self.known[row]

    def add(self, T, images):
        """The number of a type, with the types of these numbers put in for its first variables."""
        done = []
        todo = [(T, False)]
        while todo:
            part, ready = todo.pop()
            own = 0 if part[0] in ("fn", "tuple") else part[1]
            if part[0] == "var":
                done.append(images[own] if own < len(images) else self._add_row(("var", own, ())))
            elif ready:
                first = len(done) - len(children(part))
                parts = tuple(done[first:])
                del done[first:]
                done.append(self._add_row((part[0], own, parts)))
            else:
                todo.append((part, True))
                todo.extend([(inner, False) for inner in children(part)[::-1]])
        return done[0]

    def sort_of(self, kind):
        """What values of a type are: "tuple", "int", "string", "exn", "data", or "thing"."""
        word, own, _ = self.rows[kind]
        if word == "tuple":
            return "tuple"
        if word != "made":
            return "thing"
        if own in SORTS:
            return SORTS[own]
        return "thing" if self.book.constructors(own) is None else "data"

    def members(self, kind):
        """The numbers of the parts of a type."""
        return self.rows[kind][2]

    def constructors(self, kind):
        """The dict from the names of the constructors, in order, to what they carry, or None."""
        if kind not in self.carried:
            _, stamp, args = self.rows[kind]
            self.carried[kind] = {
                name: None if T is None else self.add(T, args) for name, T in self.book.constructors(stamp)}
        return self.carried[kind]

    def tag(self, path):
        """What a path of a constructor or exception leads to, or None."""
        try:
            return self.face.tag(path)
        except UnknownName:
            return None

    def is_exception(self, path):
        """Whether a path leads to an exception."""
        tag = self.tag(path)
        return tag is not None and tag[0] == "exn"

    def under(self, kind, key):
        """The kind of what a constructor or exception carries, or None; it must be one of the type."""
        if self.sort_of(kind) == "data":
            return self.constructors(kind)[key]
        carried = self.tag(key)[1]
        return None if carried is None else self.add(carried, ())

    def key_of(self, kind, path):
        """The key of a constructor or exception of a type with a path, or None if the type has none such."""
        tag = self.tag(path)
        if tag is None:
            return None
        if tag[0] == "exn":
            return path if self.sort_of(kind) == "exn" else None
        if self.sort_of(kind) != "data" or self.rows[kind][1] != tag[1]:
            return None
        names = list(self.constructors(kind))
        return path[-1] if tag[2] < len(names) and names[tag[2]] == path[-1] else None
