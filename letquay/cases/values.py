"""Values and told patterns: what they look like, of which types they are, and what meets what."""

from letquay.text.forms import is_literal_integer, is_literal_string
from letquay.text.names import is_high, is_high_path


def is_int(value):
    """Whether any value is an integer, of whatever length."""
    return isinstance(value, int) and not isinstance(value, bool)


def has_form(value, word, many):
    """Whether any value is a tuple of so many entries with a word ahead."""
    return isinstance(value, tuple) and len(value) == many and isinstance(value[0], str) and value[0] == word


def carried_by(value, path):
    """The tuple with what a value of a constructor or exception with a path carries, or None if it is no such value."""
    if has_form(value, "con", 3) and isinstance(value[1], str) and value[1] == path[-1]:
        return (value[2],)
    if has_form(value, "exn", 3) and is_high_path(value[1]) and value[1] == path:
        return (value[2],)
    return None


def members_of(value, many):
    """The members of a value that is a tuple of so many, else None."""
    if has_form(value, "tuple", 2) and isinstance(value[1], tuple) and len(value[1]) == many:
        return value[1]
    return None


def _parts_met(value, tree):
    """The pairs (value, pattern) that must meet if a value meets a tuple or con pattern, or None if it cannot."""
    if tree[0] == "tuple":
        members = members_of(value, len(tree[1]))
        return None if members is None else list(zip(members, tree[1]))
    carried = carried_by(value, tree[1])
    if carried is None or (carried[0] is None) != (tree[2] is None):
        return None
    return [] if tree[2] is None else [(carried[0], tree[2])]


def _is_literal(value, tree):
    """Whether a value is the literal of a pattern."""
    fits = is_int(value) if tree[0] == "int" else isinstance(value, str)
    return fits and value == tree[1]


def bound_by_meeting(value, pattern, bound):
    """Whether a value meets a pattern; what it binds by the first alternative that it meets comes into a dict."""
    word = pattern[0]
    if word in ("name", "as"):
        bound[pattern[1]] = value
    if word in ("any", "name"):
        return True
    if word in ("int", "string"):
        return _is_literal(value, pattern)
    if word == "as":
        return bound_by_meeting(value, pattern[2], bound)
    if word == "or":
        own = {}
        met = bound_by_meeting(value, pattern[1], own) or bound_by_meeting(value, pattern[2], own)
        bound.update(own)
        return met
    parts = _parts_met(value, pattern)
    return parts is not None and all([bound_by_meeting(inner, part, bound) for inner, part in parts])


def meets_told(value, told):
    """Whether a value meets a told pattern."""
    word = told[0]
    if word == "any":
        return True
    if word in ("int", "string"):
        return _is_literal(value, told)
    if word == "but":
        own = is_literal_integer(value) if is_int(told[1][0]) else is_literal_string(value)
        return own and value not in told[1]
    if word == "but exceptions":
        if has_form(value, "exn", 3):
            return is_high_path(value[1]) and value[1] not in told[1]
        return has_form(value, "thing", 1)
    parts = _parts_met(value, told)
    return parts is not None and all([meets_told(inner, part) for inner, part in parts])


def _are_ascending(values):
    return all([low < high for low, high in zip(values, values[1:])])


def _is_but(value):
    """Whether the value is a `but` of integers or strings, or of paths of exceptions."""
    if not isinstance(value[1], tuple) or len(value[1]) == 0:
        return False
    if value[0] == "but exceptions":
        return all([is_high_path(path) for path in value[1]]) and _are_ascending(value[1])
    if all([is_literal_integer(key) for key in value[1]]) or all([is_literal_string(key) for key in value[1]]):
        return _are_ascending(value[1])
    return False


def is_told(value):
    """Whether any value has the form of a told pattern."""
    if has_form(value, "any", 1):
        return True
    if has_form(value, "int", 2):
        return is_literal_integer(value[1])
    if has_form(value, "string", 2):
        return is_literal_string(value[1])
    if has_form(value, "tuple", 2):
        return isinstance(value[1], tuple) and len(value[1]) != 1 and all([is_told(part) for part in value[1]])
    if has_form(value, "con", 3):
        return is_high_path(value[1]) and (value[2] is None or is_told(value[2]))
    return (has_form(value, "but", 2) or has_form(value, "but exceptions", 2)) and _is_but(value)


def _told_key(kinds, kind, path):
    """The key of a told constructor or exception of a kind, or None if it has none such."""
    if kinds.sort_of(kind) == "exn":
        return path if kinds.is_exception(path) else None
    if kinds.sort_of(kind) == "data" and len(path) == 1:
        return path[0] if path[0] in kinds.constructors(kind) else None
    return None


def entries_of_told(kinds, kind, told, place, entries):
    """Whether a told pattern fits a kind; what it wants at a place, and below it, comes into a dict."""
    word = told[0]
    sort = kinds.sort_of(kind)
    if word == "any":
        return True
    if word in ("int", "string"):
        entries[place] = ("is", told[1])
        return sort == word
    if word == "but":
        entries[place] = told
        return sort == ("int" if is_int(told[1][0]) else "string")
    if word == "but exceptions":
        entries[place] = ("but", told[1])
        return sort == "exn" and all([kinds.is_exception(path) for path in told[1]])
    if word == "tuple":
        entries[place] = ("tuple",)
        members = kinds.members(kind)
        if sort != "tuple" or len(members) != len(told[1]):
            return False
        return all([
            entries_of_told(kinds, member, told[1][k], (*place, k), entries) for k, member in enumerate(members)])
    key = _told_key(kinds, kind, told[1])
    if key is None:
        return False
    entries[place] = ("is", key)
    under = kinds.under(kind, key)
    if under is None or told[2] is None:
        return under is None and told[2] is None
    return entries_of_told(kinds, under, told[2], (*place, key), entries)


def _parts_of_value(kinds, value, kind):
    """The pairs (value, kind) that must fit if any value is one of a kind, or None if it is none."""
    sort = kinds.sort_of(kind)
    if sort in ("int", "string"):
        return [] if (is_literal_integer(value) if sort == "int" else is_literal_string(value)) else None
    if sort == "tuple":
        kinds_inside = kinds.members(kind)
        members = members_of(value, len(kinds_inside))
        return None if members is None else list(zip(members, kinds_inside))
    if has_form(value, "thing", 1):
        return [] if sort in ("thing", "exn") else None
    if sort == "data":
        if not has_form(value, "con", 3) or not is_high(value[1]) or value[1] not in kinds.constructors(kind):
            return None
    elif sort != "exn" or not has_form(value, "exn", 3):
        return None
    elif not is_high_path(value[1]) or not kinds.is_exception(value[1]):
        return None
    under = kinds.under(kind, value[1])
    if under is None or value[2] is None:
        return [] if under is None and value[2] is None else None
    return [(value[2], under)]


def is_value_of_kind(kinds, value, kind):
    """Whether any value is one of a kind."""
    todo = [(value, kind)]
    while todo:
        part, inner = todo.pop()
        parts = _parts_of_value(kinds, part, inner)
        if parts is None:
            return False
        todo.extend(parts)
    return True
