"""Trees: whether a value is one, its parts by place, and the names that a pattern binds."""

from letquay.checks import is_place
from letquay.errors import InvalidOperation, InvalidTree
from letquay.text.forms import LEAVES, MEMBERS, NODES, ONE_OPERAND, RECORDS, SEQUENCES, are_leaves, form_of

MAX_DEPTH = 60
MAX_NODES = 3000

KINDS = ("type", "whole", "expression", "top", "structure", "signature", "unit")

# Patterns with these words bind no name, or one alone.
PLAIN_PATTERNS = ("any", "name", "int", "string")


def _by_words(values, sort):
    """The dict of the values by their words, or None if one of them has no word of a node of this sort."""
    groups = {}
    for value in values:
        if not isinstance(value, tuple) or len(value) == 0 or not isinstance(value[0], str):
            return None
        word = value[0]
        if word in groups:
            groups[word].append(value)
        elif form_of(sort, word) is None:
            return None
        else:
            groups[word] = [value]
    return groups


def _columns(values, sorts, first):
    """The pairs (sort, values) of the parts of values that have the same form, or None if they have not."""
    many = first + len(sorts)
    if not all([len(value) == many for value in values]):
        return None
    return [(sort, [value[first + k] for value in values]) for k, sort in enumerate(sorts)]


def _operations(values):
    """The same for operations, which have one operand or two."""
    if not all([len(value) == 3 for value in values]):
        return None
    one = [value for value in values if value[1] in ONE_OPERAND]
    two = [value for value in values if value[1] not in ONE_OPERAND]
    return [
        ("operator", [value[1] for value in values]), ("one operand", [value[2] for value in one]),
        ("two operands", [value[2] for value in two])]


def _inside_nodes(values, sort):
    """The pairs (sort, values) of the parts of nodes, or None if one is no node of this sort."""
    groups = _by_words(values, sort)
    if groups is None:
        return None
    found = []
    for word, group in groups.items():
        columns = _operations(group) if word == "op" else _columns(group, form_of(sort, word), 1)
        if columns is None:
            return None
        found.extend(columns)
    return found


def _first_names(value):
    """The strings in a tuple, or ahead in its tuples: those that must be unlike in parameters and functions."""
    names = [entry[0] if isinstance(entry, tuple) and len(entry) > 0 else entry for entry in value]
    return [name for name in names if isinstance(name, str)]


def _has_unlike_names(value):
    names = _first_names(value)
    return len(set(names)) == len(names)


def _inside_sequences(values, sort):
    entry, least, most = SEQUENCES[sort]
    if not all([least <= len(value) and (most == 0 or len(value) <= most) for value in values]):
        return None
    if sort in ("parameters", "functions") and not all([_has_unlike_names(value) for value in values]):
        return None
    return [(entry, [part for value in values for part in value])]


def _inside(values, sort):
    """The pairs (sort, values) of what stands in values, or None if one of them cannot be of this sort.

    What stands in them is not looked at.
    """
    if sort[-1] == "?":
        return [(sort[:-1], [value for value in values if value is not None])]
    if sort in LEAVES:
        return [] if are_leaves(sort, values) else None
    if sort in NODES:
        return _inside_nodes(values, sort)
    if not all([isinstance(value, tuple) for value in values]):
        return None
    if sort in SEQUENCES:
        return _inside_sequences(values, sort)
    if sort in MEMBERS:
        if not all([len(value) != 1 for value in values]):
            return None
        return [(MEMBERS[sort], [part for value in values for part in value])]
    return _columns(values, RECORDS[sort], 0)


def _patterns_inside(pattern):
    if pattern[0] == "tuple":
        return pattern[1]
    if pattern[0] == "as" or pattern[0] == "con" and pattern[2] is not None:
        return (pattern[2],)
    return ()


def _names_in(pattern):
    """The ascending list of names, or None if one stands twice, or the parts of an `or` bind unlike ones."""
    if pattern[0] == "or":
        names = _names_in(pattern[1])
        return names if names == _names_in(pattern[2]) else None
    names = [pattern[1]] if pattern[0] in ("name", "as") else []
    for part in _patterns_inside(pattern):
        if part[0] not in ("any", "int", "string"):
            more = _names_in(part)
            if more is None:
                return None
            names.extend(more)
    return sorted(names) if len(set(names)) == len(names) else None


def _bind_once(patterns):
    wide = [pattern for pattern in patterns if pattern[0] not in PLAIN_PATTERNS]
    return all([_names_in(pattern) is not None for pattern in wide])


def count_of(value, sort):
    """How many nodes a tree, group or the like of this sort has, or None if the value is none.

    Parts of one sort that are equally deep are looked at together, as a triple (sort, values, depth), so that what
    all of them must have is asked once for many.
    """
    todo = [(sort, [value], 0)]
    nodes = 0
    patterns = []
    while todo:
        kind, values, depth = todo.pop()
        if kind in NODES:
            nodes += len(values)
            depth += 1
        if nodes > MAX_NODES or depth > MAX_DEPTH:
            return None
        parts = _inside(values, kind)
        if parts is None:
            return None
        if kind == "whole":
            patterns.extend(values)
        todo.extend([(inner, entries, depth) for inner, entries in parts if entries])
    return nodes if _bind_once(patterns) else None


def is_tree(value, sort):
    """Whether any value is a tree, group or parameters of this sort, with as many nodes and as deep as is let."""
    return count_of(value, sort) is not None


def is_type_tree(value):
    """Whether the value is a type."""
    return is_tree(value, "type")


def is_pattern(value):
    """Whether the value is a pattern."""
    return is_tree(value, "whole")


def is_expression(value):
    """Whether the value is an expression."""
    return is_tree(value, "expression")


def is_declaration(value):
    """Whether the value is a declaration, one of those of a unit."""
    return is_tree(value, "top")


def is_structure(value):
    """Whether the value is a structure."""
    return is_tree(value, "structure")


def is_signature(value):
    """Whether the value is a signature."""
    return is_tree(value, "signature")


def is_unit(value):
    """Whether the value is a unit, a tuple of declarations."""
    return is_tree(value, "unit")


def _kind_and_count(tree):
    """The first kind of which a tree is, and how many nodes it has."""
    for kind in KINDS:
        count = count_of(tree, kind)
        if count is not None:
            return kind, count
    raise InvalidTree("this is no tree")


def part_at(tree, place):
    """The entry to which a place leads, a tree or not."""
    _kind_and_count(tree)
    if not is_place(place):
        raise InvalidOperation("a place is a tuple of integers from 0 on")
    part = tree
    for index in place:
        if not isinstance(part, tuple) or index >= len(part):
            raise InvalidOperation("the place leads nowhere")
        part = part[index]
    return part


def depth_of(tree, kind):
    """How deep a tree of some kind is."""
    deepest = 0
    todo = [([tree], kind, 0)]
    while todo:
        values, sort, depth = todo.pop()
        if sort in NODES:
            depth += 1
            deepest = max(deepest, depth)
        todo.extend([(parts, inner, depth) for inner, parts in _inside(values, sort) if parts])
    return deepest


def _sorts_in(part, sort):
    """The first index of what stands in a part of a tree of this sort, and the tuple of the sorts."""
    if sort in NODES:
        sorts = form_of(sort, part[0])
        if "operands" in sorts:
            sorts = ("operator", "one operand" if part[1] in ONE_OPERAND else "two operands")
        return 1, sorts
    if sort in SEQUENCES or sort in MEMBERS:
        entry = SEQUENCES[sort][0] if sort in SEQUENCES else MEMBERS[sort]
        return 0, tuple([entry for _ in part])
    return 0, RECORDS[sort]


def places_of(tree, kind):
    """The ascending list of the places of all nodes of a tree of some kind."""
    found = []
    todo = [(tree, kind, ())]
    while todo:
        part, sort, place = todo.pop()
        if sort[-1] == "?":
            sort = sort[:-1]
        if part is None or sort in LEAVES:
            continue
        if sort in NODES:
            found.append(place)
        first, sorts = _sorts_in(part, sort)
        inside = [(part[first + k], inner, (*place, first + k)) for k, inner in enumerate(sorts)]
        todo.extend(inside[::-1])
    return found


def places_in(tree):
    """The ascending tuple of the places of all nodes."""
    return tuple(places_of(tree, _kind_and_count(tree)[0]))


def nodes_in(tree):
    """How many nodes a tree has."""
    return _kind_and_count(tree)[1]


def names_bound(pattern):
    """The ascending tuple of the names that a pattern binds."""
    if not is_pattern(pattern):
        raise InvalidTree("this is no pattern")
    return tuple(_names_in(pattern))
