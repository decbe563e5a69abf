"""Trees: whether a value is one, its parts by place, and the names that a pattern binds."""

from letquay.checks import is_place
from letquay.errors import InvalidOperation, InvalidTree
from letquay.text.forms import LEAVES, MEMBERS, NODES, ONE_OPERAND, RECORDS, SEQUENCES, form_of, is_leaf

MAX_DEPTH = 60
MAX_NODES = 3000

KINDS = ("type", "whole", "expression", "top", "structure", "signature", "unit")


def _numbered(value, sorts, first):
    return [(first + k, value[first + k], sort) for k, sort in enumerate(sorts)]


def _parts_of_node(value, sort):
    if len(value) == 0 or not isinstance(value[0], str):
        return None
    sorts = form_of(sort, value[0])
    if sorts is None or len(value) != 1 + len(sorts):
        return None
    if "operands" in sorts:
        sorts = ("operator", "one operand" if value[1] in ONE_OPERAND else "two operands")
    return _numbered(value, sorts, 1)


def _first_names(value):
    """The strings in a tuple, or ahead in its tuples: those that must be unlike in parameters and functions."""
    names = [entry[0] if isinstance(entry, tuple) and len(entry) > 0 else entry for entry in value]
    return [name for name in names if isinstance(name, str)]


def _parts_of_sequence(value, sort):
    entry, least, most = SEQUENCES[sort]
    if len(value) < least or most > 0 and len(value) > most:
        return None
    if sort in ("parameters", "functions"):
        names = _first_names(value)
        if len(set(names)) < len(names):
            return None
    return _numbered(value, [entry for _ in value], 0)


def parts_of(value, sort):
    """The triples (index, part, sort) of what stands in a value, or None if it cannot be one of this sort.

    The parts themselves are not looked at.
    """
    if sort[-1] == "?":
        return [] if value is None else parts_of(value, sort[:-1])
    if sort in LEAVES:
        return [] if is_leaf(sort, value) else None
    if not isinstance(value, tuple):
        return None
    if sort in NODES:
        return _parts_of_node(value, sort)
    if sort in SEQUENCES:
        return _parts_of_sequence(value, sort)
    if sort in MEMBERS:
        return None if len(value) == 1 else _numbered(value, [MEMBERS[sort] for _ in value], 0)
    return _numbered(value, RECORDS[sort], 0) if len(value) == len(RECORDS[sort]) else None


def _is_node(value, sort):
    return sort in NODES or sort[-1] == "?" and value is not None


def _patterns_inside(pattern):
    if pattern[0] == "tuple":
        return pattern[1]
    if pattern[0] == "as" or pattern[0] == "con" and pattern[2] is not None:
        return (pattern[2],)
    return ()


def _names_in(pattern):
    """The ascending list of names, or None if one stands twice, or the parts of an `or` bind unlike ones."""
    if pattern[0] == "or":
        names = _names_in(pattern[1])
        return names if names == _names_in(pattern[2]) else None
    names = [pattern[1]] if pattern[0] in ("name", "as") else []
    for part in _patterns_inside(pattern):
        more = _names_in(part)
        if more is None:
            return None
        names = names + more
    return sorted(names) if len(set(names)) == len(names) else None


def is_tree(value, sort):
    """Whether any value is a tree, group or parameters of this sort, with as many nodes and as deep as is let."""
    todo = [(value, sort, 0)]
    nodes = 0
    patterns = []
    while todo:
        part, kind, depth = todo.pop()
        entries = parts_of(part, kind)
        if entries is None:
            return False
        if _is_node(part, kind):
            nodes += 1
            depth += 1
        if nodes > MAX_NODES or depth > MAX_DEPTH:
            return False
        if kind == "whole":
            patterns.append(part)
        todo.extend([(entry, inner, depth) for _, entry, inner in entries])
    return all([_names_in(pattern) is not None for pattern in patterns])


def is_type_tree(value):
    """Whether the value is a type."""
    return is_tree(value, "type")


def is_pattern(value):
    """Whether the value is a pattern."""
    return is_tree(value, "whole")


def is_expression(value):
    """Whether the value is an expression."""
    return is_tree(value, "expression")


def is_declaration(value):
    """Whether the value is a declaration, one of those of a unit."""
    return is_tree(value, "top")


def is_structure(value):
    """Whether the value is a structure."""
    return is_tree(value, "structure")


def is_signature(value):
    """Whether the value is a signature."""
    return is_tree(value, "signature")


def is_unit(value):
    """Whether the value is a unit, a tuple of declarations."""
    return is_tree(value, "unit")


def _kind_of(tree):
    for kind in KINDS:
        if is_tree(tree, kind):
            return kind
    raise InvalidTree("this is no tree")


def part_at(tree, place):
    """The entry to which a place leads, a tree or not."""
    _kind_of(tree)
    if not is_place(place):
        raise InvalidOperation("a place is a tuple of integers from 0 on")
    part = tree
    for index in place:
        if not isinstance(part, tuple) or index >= len(part):
            raise InvalidOperation("the place leads nowhere")
        part = part[index]
    return part


def places_in(tree):
    """The ascending tuple of the places of all nodes."""
    found = []
    todo = [(tree, _kind_of(tree), ())]
    while todo:
        part, kind, place = todo.pop()
        if _is_node(part, kind):
            found.append(place)
        entries = parts_of(part, kind)
        todo.extend([(entry, inner, (*place, index)) for index, entry, inner in entries[::-1]])
    return tuple(found)


def nodes_in(tree):
    """How many nodes a tree has."""
    return len(places_in(tree))


def names_bound(pattern):
    """The ascending tuple of the names that a pattern binds."""
    if not is_pattern(pattern):
        raise InvalidTree("this is no pattern")
    return tuple(_names_in(pattern))
