"""Terms: what can be asked of a type of a book."""

from letquay.checks import is_ascending
from letquay.errors import InvalidBook, InvalidOperation, InvalidType, TooMany
from letquay.text.names import LOW_LETTERS
from letquay.types.books import Book
from letquay.types.shapes import MAX_SIZE, all_in, is_shape, nodes_of, numbered, replaced, size_with, variables_in

# The rows of the grammar of types: what belongs to a lower row than the one that stands there has parentheses.
FN_ROW = 0
TUPLE_ROW = 1
NAME_ROW = 2


def check_book(book):
    """Raise an error unless it is a book."""
    if not isinstance(book, Book):
        raise InvalidBook("this is no book")


def is_type(book, value):
    """Whether the value is a type of the book that can be passed."""
    check_book(book)
    return is_shape(value, book.arities)


def check_type(book, T):
    """Raise an error unless they are a book and a type of it."""
    if not is_type(book, T):
        raise InvalidType("this is no type of the book")


def are_types(book, value):
    """Whether the value is a tuple of types of the book."""
    return isinstance(value, tuple) and all([is_type(book, T) for T in value])


def check_marked(marked):
    """Raise an error unless it is an ascending tuple of integers from 0 on."""
    if not is_ascending(marked):
        raise InvalidOperation("marked variables are an ascending tuple of integers from 0 on")


def size_of(book, T):
    """How many types stand in a type, itself included."""
    check_type(book, T)
    return len(nodes_of(T))


def variables_of(book, T):
    """The numbers of the variables, each once, as they first stand in the text."""
    check_type(book, T)
    return variables_in(T)


def renumbered(book, T):
    """The type with its variables renamed to 0, 1, .. in this order."""
    check_type(book, T)
    return replaced(T, numbered(variables_in(T)))


def put_in(T, images):
    """The type with images, a dict by variables, put in: `TooMany` if it gets too great."""
    if not images:
        return T
    sizes = {variable: len(all_in(image)) for variable, image in images.items()}
    if size_with(T, sizes) > MAX_SIZE:
        raise TooMany(MAX_SIZE)
    return replaced(T, images)


def put(book, T, types):
    """The type with `types[n]` in the place of each variable n."""
    check_type(book, T)
    if not are_types(book, types):
        raise InvalidOperation("this is no tuple of types of the book")
    variables = variables_in(T)
    if not all([variable < len(types) for variable in variables]):
        raise InvalidOperation("there is no type for a variable")
    return put_in(T, {variable: types[variable] for variable in variables})


def _needed_parts(book, T):
    """The parts of a type, no variable, that must admit equality if it does; `None` if it never does."""
    if T[0] == "fn":
        return None
    if T[0] == "tuple":
        return T[1]
    asks = book.asks(T[1])
    return None if asks is None else tuple([T[2][position] for position in asks])


def asked_variables(book, types):
    """The ascending tuple of the variables that must be marked if types admit equality; `None` if one never does."""
    found = {}
    todo = list(types)
    while todo:
        part = todo.pop()
        if part[0] == "var":
            found[part[1]] = True
            continue
        needed = _needed_parts(book, part)
        if needed is None:
            return None
        todo.extend(needed)
    return tuple(sorted(found))


def admits_with(book, T, marked):
    """Whether a type of the book admits equality, for some marked variables."""
    asked = asked_variables(book, (T,))
    return asked is not None and all([variable in marked for variable in asked])


def admits(book, T, *, marked=()):
    """Whether a type admits equality."""
    check_type(book, T)
    check_marked(marked)
    return admits_with(book, T, marked)


def _variable_text(number, marked):
    quotes = "''" if number in marked else "'"
    letter = LOW_LETTERS[number % len(LOW_LETTERS)]
    round_ = number // len(LOW_LETTERS)
    return f"{quotes}{letter}{round_}" if round_ > 0 else f"{quotes}{letter}"


def _parted(types, separator, row):
    """The types, each with the row in which it stands, and a text between them."""
    items = []
    for T in types:
        if items:
            items.append(separator)
        items.append((T, row))
    return items


def _items_of(book, T, row, marked):
    """The texts, and the types with their rows, of which the text of a type is made."""
    if T[0] == "var":
        return [_variable_text(T[1], marked)]
    if T[0] == "fn":
        own, items = FN_ROW, [(T[1], TUPLE_ROW), " -> ", (T[2], FN_ROW)]
    elif T[0] == "tuple":
        own, items = TUPLE_ROW, _parted(T[1], " * ", NAME_ROW)
    else:
        own, items = NAME_ROW, _made_items(book.printed(T[1]), T[2])
    if not items:
        return ["unit"]
    return ["(", *items, ")"] if own < row else items


def _made_items(printed, types):
    if len(types) == 0:
        return [printed]
    if len(types) == 1:
        return [(types[0], NAME_ROW), f" {printed}"]
    return ["(", *_parted(types, ", ", FN_ROW), f") {printed}"]


def text_with(book, T, marked):
    """The text of a type of the book, for some marked variables."""
    todo = [(T, FN_ROW)]
    found = []
    while todo:
        item = todo.pop()
        if isinstance(item, str):
            found.append(item)
        else:
            part, row = item
            todo.extend(_items_of(book, part, row, marked)[::-1])
    return "".join(found)


def type_text(book, T, *, marked=()):
    """The text of a type, in which marked variables have two quotes."""
    check_type(book, T)
    check_marked(marked)
    return text_with(book, T, marked)
