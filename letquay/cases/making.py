"""Making trees of tests for rows, with a list of what is still to be made."""

from letquay.errors import TooMany

# What is still to be made is one of the pairs ("rows", list of alternatives that are left), ("guard", alternative) and
# ("test", (place, keys, whether there is another tree)). An alternative that is left is a triple (row, dict of what
# it still wants by places, bound); tuples are not asked.


def left_of(alternatives):
    """What is left of alternatives ahead of all tests."""
    return [
        (found.row, {place: entry[1] for place, entry in found.entries.items() if entry[0] == "is"},
         tuple(list(found.bound.items())))
        for found in alternatives]


def _is_below(place, others):
    """Whether a place is below one of some others."""
    return any([len(other) < len(place) and place[:len(other)] == other for other in others])


def _asked_place(left):
    """The place to ask next: one that the first alternative wants, and as many others as can be."""
    wanted = left[0][1]
    places = [place for place in wanted if not _is_below(place, list(wanted))]
    counts = [sum([1 for _, entries, _ in left if place in entries]) for place in places]
    return places[counts.index(max(counts))]


def _without(entries, place):
    return {other: key for other, key in entries.items() if other != place}


def _with_key(left, place, key):
    """What is left of alternatives where a key has been found at a place."""
    return [
        (row, _without(entries, place), bound) for row, entries, bound in left if entries.get(place, key) == key]


def _other(left, place):
    """What is left of alternatives where none of their keys has been found at a place."""
    return [(row, entries, bound) for row, entries, bound in left if place not in entries]


class Making:
    """A tree of at most so many nodes that is being made, for the rows of a match and the kinds of its values."""

    def __init__(self, kinds, kind, rows, most):
        self.most = most
        self.kinds = kinds
        self.kind = kind
        self.rows = rows
        self.many = 0
        self.todo = []
        self.done = []

    def make(self, left):
        """The tree for what is left."""
        self.todo.append(("rows", left))
        while self.todo:
            word, what = self.todo.pop()
            if word == "rows":
                self._begin(what)
            elif word == "guard":
                self.done.append(("guard", *what, self.done.pop()))
            else:
                self._end_test(*what)
        return self.done[0]

    def _begin(self, left):
        self.many += 1
        if self.many > self.most:
            raise TooMany(self.most)
        if not left:
            self.done.append(("fail",))
            return
        row, wanted, bound = left[0]
        if wanted:
            self._begin_test(left)
        elif self.rows[row][1]:
            self.todo.append(("guard", (row, bound)))
            self.todo.append(("rows", [other for other in left if other[0] != row]))
        else:
            self.done.append(("row", row, bound))

    def _begin_test(self, left):
        place = _asked_place(left)
        found = {entries[place]: True for _, entries, _ in left if place in entries}
        names = self.names_at(place)
        keys = [name for name in names if name in found] if names else sorted(found)
        has_other = len(keys) < len(names) or not names
        self.todo.append(("test", (place, keys, has_other)))
        if has_other:
            self.todo.append(("rows", _other(left, place)))
        self.todo.extend([("rows", _with_key(left, place, key)) for key in keys[::-1]])

    def _end_test(self, place, keys, has_other):
        other = self.done.pop() if has_other else None
        first = len(self.done) - len(keys)
        trees = self.done[first:]
        del self.done[first:]
        self.done.append(("test", place, tuple(list(zip(keys, trees))), other))

    def names_at(self, place):
        """The names of the constructors of the type at a place, or none if it has no constructors."""
        kind = self.kind
        for step in place:
            kind = self.kinds.members(kind)[step] if isinstance(step, int) else self.kinds.under(kind, step)
        return list(self.kinds.constructors(kind)) if self.kinds.sort_of(kind) == "data" else []
