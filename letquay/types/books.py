"""Books: the stamps of all types that are made."""

from letquay.checks import is_ascending, is_integer
from letquay.errors import InvalidNumber, InvalidOperation
from letquay.text.names import is_high, is_low
from letquay.types.shapes import is_shape, variables_in

MAX_ARITY = 4

FIRST_ROWS = (
    ("int", 0, (), None),
    ("string", 0, (), None),
    ("bool", 0, (), (("True", None), ("False", None))),
    ("exn", 0, None, None),
    ("list", 1, (0,), (("Nil", None), ("Cons", ("tuple", (("var", 0), ("made", 5, (("var", 0),))))))),
    ("ref", 1, (), None),
)


def is_arity(value):
    """Whether the value is a number of parameters that a stamp can have."""
    return is_integer(value) and 0 <= value <= MAX_ARITY


def is_carried(value, arity, arities):
    """Whether a constructor of a stamp with this arity can carry the value: a type of its parameters, or None."""
    if value is None:
        return True
    return is_shape(value, arities) and all([number < arity for number in variables_in(value)])


def _is_outline(value):
    """Whether the value has all that a row must have ahead of its constructors."""
    if not isinstance(value, tuple) or len(value) != 4 or not is_low(value[0]) or not is_arity(value[1]):
        return False
    asks = value[2]
    return asks is None or is_ascending(asks) and all([number < value[1] for number in asks])


def are_constructors(value, arity, arities):
    """Whether the value is a tuple of one or more pairs with different names, right for a stamp of this arity."""
    if not isinstance(value, tuple) or len(value) == 0:
        return False
    if not all([isinstance(pair, tuple) and len(pair) == 2 and is_high(pair[0]) for pair in value]):
        return False
    names = [pair[0] for pair in value]
    return len(set(names)) == len(names) and all([is_carried(pair[1], arity, arities) for pair in value])


class Book:
    """A book of stamps, which are numbered from 1 on. It never changes."""

    def __init__(self):
        self._rows = FIRST_ROWS
        self.arities = tuple([row[1] for row in FIRST_ROWS])

    def _row(self, stamp):
        if not is_integer(stamp) or not 1 <= stamp <= len(self._rows):
            raise InvalidNumber(stamp)
        return self._rows[stamp - 1]

    def printed(self, stamp):
        """The printed name of a stamp."""
        return self._row(stamp)[0]

    def arity(self, stamp):
        """How many parameters a stamp has."""
        return self._row(stamp)[1]

    def asks(self, stamp):
        """Which parameters of a stamp must admit equality; `None` if it never does."""
        return self._row(stamp)[2]

    def constructors(self, stamp):
        """The pairs (name, carried type) of a stamp; `None` if there are none."""
        return self._row(stamp)[3]

    def with_stamps(self, rows):
        """The pair of a book with some stamps more and of the tuple of these."""
        if not isinstance(rows, tuple) or not all([_is_outline(row) for row in rows]):
            raise InvalidOperation("rows are tuples (printed, arity, asks, constructors)")
        arities = (*self.arities, *[row[1] for row in rows])
        if not all([row[3] is None or are_constructors(row[3], row[1], arities) for row in rows]):
            raise InvalidOperation("constructors are pairs of different names and types of the book")
        return self._extended(rows)

    def _extended(self, rows):
        book = Book()
        book._rows = (*self._rows, *rows)
        book.arities = (*self.arities, *[row[1] for row in rows])
        return book, tuple(range(len(self._rows) + 1, len(book._rows) + 1))

    def __eq__(self, other):
        return isinstance(other, Book) and self._rows == other._rows

    def __len__(self):
        return len(self._rows)

    def __str__(self):
        return f"book of {len(self._rows)} stamps"
