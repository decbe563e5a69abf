"""The shape of types: their parts, judged and put together without a book, and without recursion.

Types can be three hundred deep, so all functions here keep what is still to be done in a list.
"""

from letquay.checks import is_integer, is_whole

MAX_SIZE = 300


def children(T):
    """The tuple of the types directly inside of a type."""
    if T[0] == "var":
        return ()
    if T[0] == "fn":
        return T[1:]
    return T[1] if T[0] == "tuple" else T[2]


def with_children(T, parts):
    """The type with other types directly inside of it."""
    if T[0] == "fn":
        return ("fn", *parts)
    return ("tuple", parts) if T[0] == "tuple" else ("made", T[1], parts)


def _parts_of(value):
    """What stands directly in a value, or None if it cannot be a type, whatever stamps there are."""
    if not isinstance(value, tuple) or len(value) < 2 or not isinstance(value[0], str):
        return None
    word = value[0]
    if word == "var":
        return () if len(value) == 2 and is_whole(value[1]) else None
    if word == "fn":
        return value[1:] if len(value) == 3 else None
    if not isinstance(value[-1], tuple):
        return None
    if word == "tuple":
        return value[1] if len(value) == 2 and len(value[1]) != 1 else None
    if word == "made" and len(value) == 3 and is_integer(value[1]) and value[1] > 0:
        return value[2]
    return None


def _made_in(value):
    """The list of the pairs (stamp, number of arguments) in any value, or None if it is no type that can be passed."""
    found = []
    level = [value]
    size = 0
    while level:
        size += len(level)
        if size > MAX_SIZE:
            return None
        inside = [_parts_of(part) for part in level]
        if any([parts is None for parts in inside]):
            return None
        found.extend([(part[1], len(parts)) for part, parts in zip(level, inside) if part[0] == "made"])
        level = [inner for parts in inside for inner in parts]
    return found


def is_shape(value, arities):
    """Whether any value is a type that can be passed, where the stamps from 1 on have these arities."""
    found = _made_in(value)
    return found is not None and all([stamp <= len(arities) and arities[stamp - 1] == many for stamp, many in found])


def is_loose_shape(value, first_arities, most):
    """Whether any value is a type of some book: each stamp behind the first ones has one arity, not above the most."""
    arities = {stamp: arity for stamp, arity in enumerate(first_arities, start=1)}
    found = _made_in(value)
    if found is None:
        return False
    for stamp, many in found:
        if many > most or arities.setdefault(stamp, many) != many:
            return False
    return True


def nodes_of(T):
    """The list of all types that stand in a type, itself included, as they stand in the text of the parts."""
    found = []
    todo = [T]
    while todo:
        part = todo.pop()
        found.append(part)
        todo.extend(children(part)[::-1])
    return found


def all_in(T):
    """The list of all types that stand in a type, itself included, those that are less deep first."""
    found = []
    level = [T]
    while level:
        found.extend(level)
        level = [inner for part in level for inner in children(part)]
    return found


def outline(T):
    """The tuple of what each type in a type has of its own, in this order: types with equal outlines are equal."""
    own = {"var": 1, "made": 1}
    return tuple([(part[0], part[own[part[0]]] if part[0] in own else 0, len(children(part))) for part in nodes_of(T)])


def variables_in(T):
    """The tuple of the numbers of the variables, each once, as they first stand."""
    found = {part[1]: True for part in nodes_of(T) if part[0] == "var"}
    return tuple(found)


def greatest_in(T):
    """The greatest stamp that stands in a type, or 0."""
    return max([0, *[part[1] for part in all_in(T) if part[0] == "made"]])


def size_with(T, sizes):
    """The size of a type when types of these sizes, a dict by variables, are put in the place of all variables."""
    return sum([sizes[part[1]] if part[0] == "var" else 1 for part in all_in(T)])


def replaced(T, images):
    """The type with the image of each variable, in a dict by variables, put in its place."""
    done = []
    todo = [(T, False)]
    while todo:
        part, ready = todo.pop()
        if part[0] == "var":
            done.append(images[part[1]])
        elif ready:
            first = len(done) - len(children(part))
            parts = tuple(done[first:])
            del done[first:]
            done.append(with_children(part, parts))
        else:
            todo.append((part, True))
            todo.extend([(inner, False) for inner in children(part)[::-1]])
    return done[0]


def with_makers(T, makers):
    """The type in which the types of some stamps are those of their makers, or None if it gets too great.

    What a maker does not use can be as great as it wants.
    """
    done = []
    todo = [(T, False)]
    while todo:
        part, ready = todo.pop()
        if part[0] == "var":
            done.append((1, part))
        elif ready:
            first = len(done) - len(children(part))
            inside = done[first:]
            del done[first:]
            done.append(_with_maker(part, inside, makers))
        else:
            todo.append((part, True))
            todo.extend([(inner, False) for inner in children(part)[::-1]])
    return done[0][1]


def _with_maker(part, inside, makers):
    """The pair of the size and of the type of what has these pairs inside, or None for one that is too great."""
    types = {k: T for k, (_, T) in enumerate(inside)}
    if part[0] == "made" and part[1] in makers:
        body = makers[part[1]][1]
        size = size_with(body, {k: many for k, (many, _) in enumerate(inside)})
        return size, replaced(body, types) if size <= MAX_SIZE else None
    size = 1 + sum([many for many, _ in inside])
    return size, with_children(part, tuple([T for _, T in inside])) if size <= MAX_SIZE else None


def numbered(variables):
    """The dict that renames variables to 0, 1, .. in this order."""
    return {variable: ("var", number) for number, variable in enumerate(variables)}
