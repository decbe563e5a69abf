"""Texts of values, by their types."""

from letquay.cases.kinds import Kinds
from letquay.text.literals import number_text, string_text

MAX_SHOWN = 400
LIST = 5
REF = 6

# What is still to be told is a text, or one of the triples ("value", value, kind) and ("members", tuple of what is
# left, closing text). What is left of a list or tuple are pairs (value, kind).


class Texts:
    """The text of a value of some kind; the memory tells what a value is like, and what a reference has."""

    def __init__(self, kinds, memory):
        self.kinds = kinds
        self.memory = memory
        self.many_shown = 0
        self.todo = []

    def text_of(self, value, kind):
        """The text of a value."""
        found = []
        self.many_shown = 0
        self.todo = [("value", value, kind)]
        while self.todo:
            item = self.todo.pop()
            if isinstance(item, str):
                found.append(item)
            elif item[0] == "members":
                self._begin_member(item[1], item[2])
            else:
                self.todo.extend(self._items_of(item[1], item[2])[::-1])
        return "".join(found)

    def _begin_member(self, left, closing):
        """Tell the next member of a list or tuple, or leave all that are left out."""
        if not left or self.many_shown >= MAX_SHOWN:
            self.todo.append(f"..{closing}" if left else closing)
            return
        value, kind = left[0]
        if len(left) > 1:
            self.todo.extend([("members", left[1:], closing), ", "])
        else:
            self.todo.append(closing)
        self.todo.append(("value", value, kind))

    def _items_of(self, value, kind):
        """The items of which the text of a value is made."""
        if self.many_shown >= MAX_SHOWN:
            return [".."]
        self.many_shown += 1
        word, own, parts = self.kinds.rows[kind]
        if word == "fn":
            return ["fn"]
        if word == "var":
            return ["-"]
        seen = self.memory.seen(value)
        if word == "tuple":
            return ["(", ("members", tuple(list(zip(seen[1], parts))), ")")]
        sort = self.kinds.sort_of(kind)
        if sort == "int":
            return [number_text(seen[1])]
        if sort == "string":
            return [string_text(seen[1])]
        if sort == "exn":
            return [seen[1]]
        if own == LIST:
            return ["[", ("members", self._members(seen, parts[0]), "]")]
        if own == REF:
            return ["ref ", *self._carried(seen[1], parts[0])]
        return self._of_constructor(seen, kind) if sort == "data" else ["-"]

    def _members(self, seen, kind):
        """The pairs of the members of a list, one more than can be shown at most."""
        found = []
        while seen[2] is not None and len(found) <= MAX_SHOWN:
            first, rest = self.memory.seen(seen[2])[1]
            found.append((first, kind))
            seen = self.memory.seen(rest)
        return tuple(found)

    def _of_constructor(self, seen, kind):
        _, name, carried = seen
        if carried is None:
            return [name]
        return [f"{name} ", *self._carried(carried, self.kinds.constructors(kind)[name])]

    def _carried(self, value, kind):
        """The items of what a constructor or reference carries, in parentheses if it carries something itself."""
        inside = ("value", value, kind)
        return ["(", inside, ")"] if self._is_carrying(value, kind) else [inside]

    def _is_carrying(self, value, kind):
        word, own, _ = self.kinds.rows[kind]
        if word != "made" or own == LIST:
            return False
        if own == REF:
            return True
        return self.kinds.sort_of(kind) == "data" and self.memory.seen(value)[2] is not None


def schemes_of(face):
    """The dict of the schemes of all values of a face, those of structures too, ascending by paths."""
    found = {}
    todo = [((), face)]
    while todo:
        path, inner = todo.pop()
        found.update({(*path, name): scheme for name, scheme in inner.schemes.items()})
        todo.extend([((*path, name), below) for name, below in inner.structures.items()])
    return {path: found[path] for path in sorted(found)}


def text_of_value(book, face, memory, table, name):
    """The text of one value of a face, of which a table has the values."""
    texts = Texts(Kinds(book, face), memory)
    return texts.text_of(memory.value_at(table, (name,)), texts.kinds.add(face.schemes[name].body, ()))


def texts_of_face(book, face, memory, table):
    """The pairs (name, text) of all values of a face, of which a table has the values."""
    texts = Texts(Kinds(book, face), memory)
    found = []
    for path, scheme in schemes_of(face).items():
        value = memory.value_at(table, path)
        found.append((".".join(path), texts.text_of(value, texts.kinds.add(scheme.body, ()))))
    return tuple(found)
