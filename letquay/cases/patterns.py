"""Patterns: their alternatives, whether they fit a type, what they bind, and what a value must have at which place.

What an alternative, or a told pattern, wants of a value is a dict from places to entries: `("tuple",)`; `("is", key)`
with an integer, a string, the name of a constructor or the path of an exception; or `("but", keys)`.
"""

from letquay.infer.parts import pattern_parts


def count_alternatives(pattern):
    """How many alternatives a pattern has."""
    counts = [count_alternatives(part) for _, part in pattern_parts(pattern)]
    if pattern[0] == "or":
        return sum(counts)
    found = 1
    for count in counts:
        found = found * count
    return found


def _choices(rows):
    """The list of all choices of one entry of each row, in lexicographic order."""
    found = [()]
    for row in rows:
        found = [(*ahead, entry) for ahead in found for entry in row]
    return found


def alternatives_of(pattern):
    """The list of the alternatives of a pattern, in order."""
    inside = [alternatives_of(part) for _, part in pattern_parts(pattern)]
    if pattern[0] == "or":
        return [*inside[0], *inside[1]]
    if pattern[0] == "tuple":
        return [("tuple", parts) for parts in _choices(inside)]
    return [(*pattern[:2], part) for part in inside[0]] if inside else [pattern]


class Alternative:
    """What one alternative of a row wants: its entries, and the places of the names, by names in order."""

    def __init__(self, row, entries, bound):
        self.row = row
        self.entries = entries
        self.bound = bound


def _entries(kinds, pattern, place, alternative):
    """Note what a pattern without `or` wants at a place, and below it."""
    word = pattern[0]
    if word in ("name", "as"):
        alternative.bound[pattern[1]] = place
    if word in ("int", "string"):
        alternative.entries[place] = ("is", pattern[1])
    elif word == "as":
        _entries(kinds, pattern[2], place, alternative)
    elif word == "tuple":
        alternative.entries[place] = ("tuple",)
        for k, part in enumerate(pattern[1]):
            _entries(kinds, part, (*place, k), alternative)
    elif word == "con":
        path = pattern[1]
        key = path if kinds.is_exception(path) else path[-1]
        alternative.entries[place] = ("is", key)
        if pattern[2] is not None:
            _entries(kinds, pattern[2], (*place, key), alternative)


def alternatives_in(kinds, rows):
    """The list of the alternatives of all rows, in order."""
    found = []
    for index, (pattern, _) in enumerate(rows):
        for part in alternatives_of(pattern):
            alternative = Alternative(index, {}, {})
            _entries(kinds, part, (), alternative)
            alternative.bound = {name: alternative.bound[name] for name in sorted(alternative.bound)}
            found.append(alternative)
    return found


def _fits_or(kinds, kind, pattern, bound):
    other = {}
    if not fits_kind(kinds, kind, pattern[1], bound) or not fits_kind(kinds, kind, pattern[2], other):
        return False
    return all([bound[name] == other[name] for name in other])


def fits_kind(kinds, kind, pattern, bound):
    """Whether a pattern fits a kind; the kinds of the names that it binds come into a dict."""
    word = pattern[0]
    sort = kinds.sort_of(kind)
    if word in ("name", "as"):
        bound[pattern[1]] = kind
    if word in ("any", "name"):
        return True
    if word in ("int", "string"):
        return sort == word
    if word == "as":
        return fits_kind(kinds, kind, pattern[2], bound)
    if word == "or":
        return _fits_or(kinds, kind, pattern, bound)
    if word == "tuple":
        members = kinds.members(kind)
        if sort != "tuple" or len(members) != len(pattern[1]):
            return False
        return all([fits_kind(kinds, member, part, bound) for member, part in zip(members, pattern[1])])
    key = kinds.key_of(kind, pattern[1])
    if key is None:
        return False
    under = kinds.under(kind, key)
    if under is None or pattern[2] is None:
        return under is None and pattern[2] is None
    return fits_kind(kinds, under, pattern[2], bound)


def merged(one, other):
    """The entries of what meets both of two dicts of entries, or None if nothing does."""
    found = {place: one[place] for place in one}
    for place, entry in other.items():
        mine = found.get(place, entry)
        if mine[0] == "is" and entry[0] == "is" and mine[1] != entry[1]:
            return None
        if mine[0] != entry[0] and (mine[1] in entry[1] if mine[0] == "is" else entry[1] in mine[1]):
            return None
        if mine[0] == "but" and entry[0] == "but":
            keys = [*mine[1], *[key for key in entry[1] if key not in mine[1]]]
            found[place] = ("but", tuple(sorted(keys)))
        elif mine[0] != "is":
            found[place] = entry
    return found
