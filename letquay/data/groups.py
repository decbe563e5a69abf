"""Groups: datatypes that are declared together, what they ask, and whether they have values."""

from letquay.checks import is_place
from letquay.errors import InvalidOperation, Refused, TooMany, UnknownName
from letquay.text.forms import SEQUENCES
from letquay.text.names import is_low
from letquay.types.books import are_constructors, is_arity
from letquay.types.schemes import Scheme
from letquay.types.shapes import MAX_SIZE, children, nodes_of
from letquay.types.terms import asked_variables, check_book, check_type

REF = 6


def _is_row(value):
    """Whether the value can be a row of a draft, as far as it can be seen without the other rows."""
    if not isinstance(value, tuple) or len(value) != 3 or not is_low(value[0]) or not is_arity(value[1]):
        return False
    return isinstance(value[2], tuple) and 1 <= len(value[2]) <= SEQUENCES["constructors"][2]


def _is_draft(book, value):
    if not isinstance(value, tuple) or not 1 <= len(value) <= SEQUENCES["group"][2]:
        return False
    if not all([_is_row(row) for row in value]):
        return False
    arities = (*book.arities, *[row[1] for row in value])
    if not all([are_constructors(row[2], row[1], arities) for row in value]):
        return False
    names = [*[row[0] for row in value], *[pair[0] for row in value for pair in row[2]]]
    return len(set(names)) == len(names)


def check_draft(book, draft):
    """Raise an error unless they are a book and a draft for it."""
    check_book(book)
    if not _is_draft(book, draft):
        raise InvalidOperation("this is no draft for the book")


def asked_in(book, T):
    """The ascending tuple of the asked variables of a type, or `None` if it is never equal."""
    check_type(book, T)
    return asked_variables(book, (T,))


def carried_types(constructors):
    """The list of the types that constructors carry."""
    return [pair[1] for pair in constructors if pair[1] is not None]


def with_least_asks(book, rows):
    """The pair of the book with rows (printed, arity, asks, constructors), and of their stamps.

    The asks of those with constructors are the least ones: they ask nothing at first, and then whatever must be asked
    for that.
    """
    asks = None
    wanted = [row[2] if row[3] is None else () for row in rows]
    extended, stamps = None, None
    while asks != wanted:
        asks = wanted
        asking = [(row[0], row[1], asked, row[3]) for row, asked in zip(rows, asks)]
        extended, stamps = book.with_stamps(tuple(asking))
        wanted = [row[2] if row[3] is None else asked_variables(extended, carried_types(row[3])) for row in rows]
    return extended, stamps


def _with_draft(book, draft):
    """The pair of the book with the stamps of a draft, and of these."""
    return with_least_asks(book, [(row[0], row[1], None, row[2]) for row in draft])


def asks_of(book, draft):
    """The tuple of the asks of the rows of a draft."""
    check_draft(book, draft)
    extended, stamps = _with_draft(book, draft)
    return tuple([extended.asks(stamp) for stamp in stamps])


def _stamps_below(book, types):
    """The ascending list of the stamps with constructors to which types lead."""
    found = {}
    todo = list(types)
    while todo:
        for part in nodes_of(todo.pop()):
            if part[0] == "made" and part[1] not in found and book.constructors(part[1]) is not None:
                found[part[1]] = True
                todo.extend(carried_types(book.constructors(part[1])))
    return sorted(found)


def _positions(mask):
    """The ascending tuple of the parameters of a set, whose bits they are."""
    return tuple([position for position in range(mask.bit_length()) if mask >> position & 1])


def _mask(truths):
    return sum([1 << position for position, truth in enumerate(truths) if truth])


def _always_lives(book, T):
    """Whether a type that is no variable lives with each set: a function, and what is abstract but no reference."""
    return T[0] == "fn" or T[0] == "made" and T[1] != REF and book.constructors(T[1]) is None


def _lives(book, T, variables, alive):
    """Whether a type lives with some variables; `alive` has the pairs (stamp, mask) that do."""
    done = []
    todo = [(T, False)]
    while todo:
        part, ready = todo.pop()
        if part[0] == "var":
            done.append(part[1] in variables)
        elif _always_lives(book, part):
            done.append(True)
        elif ready:
            first = len(done) - len(children(part))
            truths = done[first:]
            del done[first:]
            plain = part[0] == "tuple" or part[1] == REF
            done.append(all(truths) if plain else (part[1], _mask(truths)) in alive)
        else:
            todo.append((part, True))
            todo.extend([(inner, False) for inner in children(part)[::-1]])
    return done[0]


def _stamp_lives(book, stamp, mask, alive):
    variables = _positions(mask)
    for _, carried in book.constructors(stamp):
        if carried is None or _lives(book, carried, variables, alive):
            return True
    return False


def living_sets(book, types):
    """The pairs (stamp, mask) that live, of all stamps to which types lead, as a dict; the least choice.

    The order is turned round each time, so that rows in either direction need few rounds.
    """
    alive = {}
    stamps = _stamps_below(book, types)
    before = -1
    while before < len(alive):
        before = len(alive)
        for stamp in stamps:
            for mask in range(1 << book.arity(stamp)):
                if (stamp, mask) not in alive and _stamp_lives(book, stamp, mask, alive):
                    alive[(stamp, mask)] = True
        stamps = stamps[::-1]
    return alive


def lives_with(book, T, variables):
    """Whether a type lives with some variables."""
    check_type(book, T)
    if not is_place(variables):
        raise InvalidOperation("variables are a tuple of integers from 0 on")
    return _lives(book, T, variables, living_sets(book, (T,)))


def _least_sets(stamp, arity, alive):
    """The ascending tuple of the least sets with which a stamp lives."""
    masks = [mask for mask in range(1 << arity) if (stamp, mask) in alive]
    least = [mask for mask in masks if not any([mask & other == other and mask != other for other in masks])]
    return tuple(sorted([_positions(mask) for mask in least]))


def _made_types(book, stamps):
    """A type of each stamp."""
    return [("made", stamp, tuple([("var", k) for k in range(book.arity(stamp))])) for stamp in stamps]


def sets_of(book, draft):
    """For each row of a draft the least sets with which its stamp lives."""
    check_draft(book, draft)
    extended, stamps = _with_draft(book, draft)
    alive = living_sets(extended, _made_types(extended, stamps))
    return tuple([_least_sets(stamp, extended.arity(stamp), alive) for stamp in stamps])


def empty_ones(book, stamps):
    """The list of the indices of those of some stamps with constructors that do not live with all their parameters."""
    alive = living_sets(book, _made_types(book, stamps))
    full = [(1 << book.arity(stamp)) - 1 for stamp in stamps]
    return [
        row for row, stamp in enumerate(stamps)
        if book.constructors(stamp) is not None and (stamp, full[row]) not in alive]


def extended_by(book, draft):
    """The triple of the book with the stamps of a draft, of these, and of the list of the rows without values."""
    extended, stamps = _with_draft(book, draft)
    return extended, stamps, empty_ones(extended, stamps)


def with_draft(book, draft):
    """The pair of the book with the stamps of a draft and of these."""
    check_draft(book, draft)
    extended, stamps, empty = extended_by(book, draft)
    if empty:
        raise Refused(("empty", draft[empty[0]][0]))
    return extended, stamps


def constructor_scheme(book, stamp, name):
    """The scheme of a constructor."""
    check_book(book)
    pairs = book.constructors(stamp)
    found = [pair for pair in pairs or () if pair[0] == name]
    if not found:
        raise UnknownName(name)
    carried = found[0][1]
    T = _made_types(book, (stamp,))[0]
    if carried is not None:
        T = ("fn", carried, T)
    if len(nodes_of(T)) > MAX_SIZE:
        raise TooMany(MAX_SIZE)
    return Scheme.of(book, T)
