"""Faces: what has been declared, by names."""

from letquay.checks import is_integer
from letquay.errors import (
    InvalidFace, InvalidNumber, InvalidOperation, InvalidScheme, InvalidType, TooMany, UnknownName,
)
from letquay.text.forms import SEQUENCES
from letquay.text.names import is_high, is_high_path, is_low, is_low_path, is_type_path
from letquay.types.books import FIRST_ROWS, MAX_ARITY, is_arity
from letquay.types.schemes import Scheme
from letquay.types.shapes import MAX_SIZE, greatest_in, is_loose_shape, variables_in, with_makers

MAX_ITEMS = 2000

# The name `unit` is no item, but reserved as well.
RESERVED_TYPES = ("int", "string", "bool", "exn", "unit", "list", "ref")
RESERVED_CONSTRUCTORS = (("True", 3, 0), ("False", 3, 1), ("Nil", 5, 0), ("Cons", 5, 1))
RESERVED_EXCEPTIONS = ("Match", "Div", "Size", "End")


# Constructors and exceptions are one name space: an item of one kind hides one of the other.
RIVALS = {"constructor": "exception", "exception": "constructor"}


def is_reserved_type(name):
    """Whether no type can be declared with a name."""
    return name in RESERVED_TYPES


def is_reserved_tag(name):
    """Whether no constructor and no exception can be declared with a name."""
    return name in RESERVED_EXCEPTIONS or name in [row[0] for row in RESERVED_CONSTRUCTORS]


def maker_of(stamp, arity):
    """The maker of a stamp."""
    return (arity, ("made", stamp, tuple([("var", number) for number in range(arity)])))


def _is_free_type(value, count):
    """Whether the value is a type of some book, in which only the first variables stand."""
    first = [row[1] for row in FIRST_ROWS]
    return is_loose_shape(value, first, MAX_ARITY) and all([number < count for number in variables_in(value)])


def is_maker(value):
    """Whether the value is a maker, whatever stamps are in it."""
    if not isinstance(value, tuple) or len(value) != 2 or not is_arity(value[0]):
        return False
    return _is_free_type(value[1], value[0])


def _is_index(value):
    return is_integer(value) and 0 <= value < SEQUENCES["constructors"][2]


def _rival(kind, name):
    """The key of the item that an item of this kind and name hides, it may be of another kind."""
    return RIVALS.get(kind, kind), name


def _bounded(worth):
    if worth is None:
        raise TooMany(MAX_SIZE)
    return worth


def _changed(kind, worth, makers):
    """What becomes of an item where types of some stamps are those of their makers, and the greatest stamp in it."""
    if kind == "value":
        scheme = _bounded(worth.with_makers(makers))
        return scheme, greatest_in(scheme.body)
    if kind == "type":
        T = _bounded(with_makers(worth[1], makers))
        return (worth[0], T), greatest_in(T)
    if kind == "structure":
        face = worth.with_makers(makers)
        return face, face.greatest
    if kind == "constructor":
        stamp = makers[worth[0]][1][1] if worth[0] in makers else worth[0]
        return (stamp, worth[1]), stamp
    carried = None if worth is None else _bounded(with_makers(worth, makers))
    return carried, 0 if carried is None else greatest_in(carried)


class Face:
    """Items in four name spaces. It never changes.

    The items stand in a table, ascending by pairs (kind, name): what each is, the greatest stamp in it, and as how
    many items it counts.
    """

    def __init__(self):
        self._table = {}
        self._keys = []
        self._many = 0
        self.greatest = 0

    def _with_table(self, table):
        """A face with other items."""
        many = sum([row[2] for row in list(table.values())])
        if many > MAX_ITEMS:
            raise TooMany(MAX_ITEMS)
        face = Face()
        face._keys = sorted(table)
        face._table = {key: table[key] for key in face._keys}
        face._many = many
        face.greatest = max([0, *[row[1] for row in list(table.values())]])
        return face

    def _with_item(self, kind, name, worth, greatest, many):
        rival = _rival(kind, name)
        table = {key: self._table[key] for key in self._keys if key != rival}
        table[(kind, name)] = (worth, greatest, many)
        return self._with_table(table)

    def _of_kind(self, kind):
        return {key[1]: self._table[key][0] for key in self._keys if key[0] == kind}

    @property
    def schemes(self):
        """The schemes of the values, by names."""
        return self._of_kind("value")

    @property
    def types(self):
        """The makers of the types, by names."""
        return self._of_kind("type")

    @property
    def tags(self):
        """The pairs (stamp, index) of the constructors, by names."""
        return self._of_kind("constructor")

    @property
    def exceptions(self):
        """The carried types of the exceptions, or `None`, by names."""
        return self._of_kind("exception")

    @property
    def structures(self):
        """The faces of the structures, by names."""
        return self._of_kind("structure")

    def with_value(self, name, scheme):
        """The face with a value."""
        if not is_low(name):
            raise InvalidOperation("this is no name of a value")
        if not isinstance(scheme, Scheme):
            raise InvalidScheme("this is no scheme")
        return self._with_item("value", name, scheme, greatest_in(scheme.body), 1)

    def with_type(self, name, maker):
        """The face with a type."""
        if not is_low(name):
            raise InvalidOperation("this is no name of a type")
        if not is_maker(maker):
            raise InvalidType("this is no maker")
        return self.with_known_type(name, maker)

    def with_known_type(self, name, maker):
        """The face with a type, whose name and maker are right."""
        return self._with_item("type", name, maker, greatest_in(maker[1]), 1)

    def with_constructor(self, name, stamp, index):
        """The face with a constructor."""
        if not is_high(name):
            raise InvalidOperation("this is no name of a constructor")
        if not is_integer(stamp) or stamp < 1:
            raise InvalidNumber(stamp)
        if not _is_index(index):
            raise InvalidNumber(index)
        return self._with_item("constructor", name, (stamp, index), stamp, 1)

    def with_exception(self, name, carried):
        """The face with an exception."""
        if not is_high(name):
            raise InvalidOperation("this is no name of an exception")
        if carried is not None and not _is_free_type(carried, 0):
            raise InvalidType("an exception carries a type without variables, or nothing")
        return self._with_item("exception", name, carried, 0 if carried is None else greatest_in(carried), 1)

    def with_structure(self, name, other):
        """The face with a structure."""
        if not is_high(name):
            raise InvalidOperation("this is no name of a structure")
        if not isinstance(other, Face):
            raise InvalidFace("this is no face")
        return self._with_item("structure", name, other, other.greatest, 1 + len(other))

    def opened(self, other):
        """The face with all items of another one, which hide the ones here."""
        if not isinstance(other, Face):
            raise InvalidFace("this is no face")
        table = {key: self._table[key] for key in self._keys}
        for kind, name in other._keys:
            table.pop(_rival(kind, name), None)
            table[(kind, name)] = other._table[(kind, name)]
        return self._with_table(table)

    def with_makers(self, makers):
        """The face in which the types of some stamps are those of their makers: `TooMany` if a type gets too great.

        For stamps with constructors these are makers of stamps.
        """
        least = min(makers, default=0)
        table = {}
        for key in self._keys:
            row = self._table[key]
            table[key] = row if row[1] < least or not makers else (*_changed(key[0], row[0], makers), row[2])
        return self._with_table(table)

    def _found(self, path, kinds):
        """The pair (kind, item) to which a path leads, or `None`."""
        face = self
        for name in path[:-1]:
            row = face._table.get(("structure", name))
            if row is None:
                return None
            face = row[0]
        for kind in kinds:
            row = face._table.get((kind, path[-1]))
            if row is not None:
                return kind, row[0]
        return None

    def _item(self, path, kinds):
        found = self._found(path, kinds)
        if found is None:
            raise UnknownName(path)
        return found

    def value(self, path):
        """The scheme of a value."""
        if not is_low_path(path):
            raise InvalidOperation("this is no path of a value")
        return self._item(path, ("value",))[1]

    def maker(self, path):
        """The maker of a type."""
        if not is_type_path(path):
            raise InvalidOperation("this is no path of a type")
        return self._item(path, ("type",))[1]

    def structure(self, path):
        """The face of a structure."""
        if not is_high_path(path):
            raise InvalidOperation("this is no path of a structure")
        return self._item(path, ("structure",))[1]

    def tag(self, path):
        """What a constructor is, or what an exception carries."""
        if not is_high_path(path):
            raise InvalidOperation("this is no path of a constructor or exception")
        kind, item = self._item(path, ("constructor", "exception"))
        return ("con", *item) if kind == "constructor" else ("exn", item)

    def __contains__(self, value):
        if is_high_path(value):
            return self._found(value, ("structure", "constructor", "exception")) is not None
        return is_type_path(value) and self._found(value, ("value", "type")) is not None

    def __iter__(self):
        return iter(self._keys)

    def __eq__(self, other):
        return isinstance(other, Face) and self._table == other._table

    def __len__(self):
        return len(list(range(self._many)))

    def __str__(self):
        return f"face of {self._many} items"


def base_face():
    """The face with all reserved names."""
    table = {}
    for stamp, row in enumerate(FIRST_ROWS, start=1):
        table[("type", row[0])] = (maker_of(stamp, row[1]), stamp, 1)
    for name, stamp, index in RESERVED_CONSTRUCTORS:
        table[("constructor", name)] = ((stamp, index), stamp, 1)
    for name in RESERVED_EXCEPTIONS:
        table[("exception", name)] = (None, 0, 1)
    return Face()._with_table(table)
