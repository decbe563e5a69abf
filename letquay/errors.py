"""The errors of the package, one class for each kind of failure."""


class LetError(ValueError):
    """What a caller passed, or what a text says, is wrong."""


class InvalidTree(LetError):
    """A value is no tree of the kind that is wanted."""


class InvalidType(LetError):
    """A value is no type of the book."""


class InvalidScheme(LetError):
    """A value is no scheme, or none can be made of it."""


class InvalidBook(LetError):
    """A value is no book, or a book that lacks stamps."""


class InvalidFace(LetError):
    """A value is no face, or none for the book."""


class InvalidScope(LetError):
    """A value is no scope, or none for the book."""


class InvalidPattern(LetError):
    """A value is no pattern of the kind that is wanted."""


class InvalidCode(LetError):
    """A value is no code, or code that is not sound."""


class InvalidUnit(LetError):
    """A value is no unit or program of the kind that is wanted."""


class InvalidOperation(LetError):
    """An argument of another kind is wrong."""


class ParseError(LetError):
    """A text is wrong at the index `spot`; `None` if it is no text."""

    def __init__(self, spot):
        self.spot = spot


class InvalidNumber(IndexError):
    """The number that was `given` is none that can be used there."""

    def __init__(self, given):
        self.given = given


class UnknownName(KeyError):
    """Nothing has the name, or path, that was `wanted`."""

    def __init__(self, wanted):
        self.wanted = wanted


class NothingToUndo(LookupError):
    """There are fewer than `many` calls or steps to take back."""

    def __init__(self, many):
        self.many = many


class TooMany(OverflowError):
    """Something is greater than its `limit`."""

    def __init__(self, limit):
        self.limit = limit


class Refused(ArithmeticError):
    """A program, or a part of it, is refused for a `reason`, a tuple whose first member is a word."""

    def __init__(self, reason):
        self.reason = reason
