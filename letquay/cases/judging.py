"""Judging trees of tests: whether each value comes to the row that is taken."""

from letquay.cases.patterns import merged
from letquay.cases.search import is_found
from letquay.cases.values import has_form, is_int
from letquay.checks import is_integer
from letquay.text.forms import is_literal_integer, is_literal_string
from letquay.text.names import is_high_path


class Way:
    """What is known where a tree has been come to: the entries that have been found, the keys that have been asked by
    places, and the first row that has not been refused by its guard."""

    def __init__(self, entries, asked, start):
        self.entries = entries
        self.asked_keys = asked
        self.start = start

    def asking(self, place, keys):
        """The way on behind a test, as far as it is the same for all that can be found."""
        asked = {**self.asked_keys, place: [*self.asked_keys.get(place, []), *keys]}
        return Way(self.entries, asked, self.start)

    def finding(self, place, entry):
        """The way on where an entry has been found."""
        return Way({**self.entries, place: entry}, self.asked_keys, self.start)


def _is_index(value, rows):
    return is_integer(value) and 0 <= value < len(rows)


def parts_of_tree(value, rows):
    """The list of the trees in any value, or None if it has not the words, members and indices of a tree for rows."""
    if has_form(value, "fail", 1):
        return []
    if has_form(value, "row", 3):
        return [] if _is_index(value[1], rows) else None
    if has_form(value, "guard", 4):
        return [value[3]] if _is_index(value[1], rows) else None
    if not has_form(value, "test", 4) or not isinstance(value[2], tuple):
        return None
    if not all([isinstance(pair, tuple) and len(pair) == 2 for pair in value[2]]):
        return None
    return [*[pair[1] for pair in value[2]], *([] if value[3] is None else [value[3]])]


def _is_same(value, wanted):
    """Whether any value is a tuple of tuples, strings and integers, where booleans are none."""
    if isinstance(wanted, tuple):
        if not isinstance(value, tuple) or len(value) != len(wanted):
            return False
        return all([_is_same(one, other) for one, other in zip(value, wanted)])
    return (is_int(value) if is_int(wanted) else isinstance(value, str)) and value == wanted


class TreeJudge:
    """Rows by which trees are judged."""

    def __init__(self, kinds, kind, rows, alternatives):
        self.kinds = kinds
        self.kind = kind
        self.rows = rows
        self.alternatives = alternatives

    def kind_at(self, place, way):
        """The kind at a place that can be asked, or None: what is below constructors must have been found there."""
        if not isinstance(place, tuple):
            return None
        kind = self.kind
        for at, step in enumerate(place):
            sort = self.kinds.sort_of(kind)
            if sort == "tuple":
                if not is_integer(step) or not 0 <= step < len(self.kinds.members(kind)):
                    return None
                kind = self.kinds.members(kind)[step]
            elif not self.is_key(kind, step) or way.entries.get(place[:at]) != ("is", step):
                return None
            elif sort not in ("data", "exn") or self.kinds.under(kind, step) is None:
                return None
            else:
                kind = self.kinds.under(kind, step)
        return kind

    def is_key(self, kind, value):
        """Whether any value is a key of a kind."""
        sort = self.kinds.sort_of(kind)
        if sort == "int":
            return is_literal_integer(value)
        if sort == "string":
            return is_literal_string(value)
        if sort == "exn":
            return is_high_path(value) and self.kinds.is_exception(value)
        return sort == "data" and isinstance(value, str) and value in self.kinds.constructors(kind)

    def is_right_test(self, value, way):
        """Whether a test can be done on a way."""
        _, place, table, other = value
        kind = self.kind_at(place, way)
        if kind is None or self.kinds.sort_of(kind) not in ("int", "string", "exn", "data"):
            return False
        keys = [pair[0] for pair in table]
        if not all([self.is_key(kind, key) for key in keys]) or len(set(keys)) < len(keys):
            return False
        asked = way.asked_keys.get(place)
        if asked is not None and (self.kinds.sort_of(kind) != "exn" or any([key in asked for key in keys])):
            return False
        return other is not None or self.has_all(kind, keys)

    def has_all(self, kind, keys):
        """Whether keys are all constructors of a kind."""
        return self.kinds.sort_of(kind) == "data" and len(keys) == len(self.kinds.constructors(kind))

    def branches(self, value, way):
        """The pairs (tree, way) behind a right test; the way is None where no value leads."""
        _, place, table, other = value
        keys = [pair[0] for pair in table]
        entry = way.entries.get(place, ("but", ()))
        asking = way.asking(place, keys)
        found = []
        for key, tree in table:
            is_let = entry[0] == "but" or entry[1] == key
            found.append((tree, asking.finding(place, ("is", key)) if is_let else None))
        if other is None:
            return found
        if entry[0] == "is":
            behind = None if entry[1] in keys else asking
        elif self.has_all(self.kind_at(place, way), keys):
            behind = None
        else:
            excluded = tuple(sorted([*entry[1], *keys]))
            behind = asking.finding(place, ("but", excluded)) if excluded else asking
        return [*found, (other, behind)]

    def _met(self, way):
        """The pairs (alternative, entries) of the alternatives that values can meet on a way, in order."""
        found = []
        for alternative in self.alternatives:
            entries = merged(way.entries, alternative.entries) if alternative.row >= way.start else None
            if entries is not None:
                found.append((alternative, entries))
        return found

    def _is_sure(self, alternative, way):
        """Whether each value on a way meets an alternative."""
        return all([entry[0] == "tuple" or way.entries.get(place) == entry
                    for place, entry in alternative.entries.items()])

    def is_met_first(self, way, row, bound):
        """Whether each value on a way meets this row ahead of all others, and binds the names at these places."""
        ahead = []
        for alternative, entries in self._met(way):
            if not ahead or is_found(self.kinds, self.kind, ahead, entries):
                own = tuple(list(alternative.bound.items()))
                if alternative.row != row or not _is_same(bound, own):
                    return False
            if self._is_sure(alternative, way):
                return True
            ahead.append(alternative.entries)
        return not is_found(self.kinds, self.kind, ahead, way.entries)

    def behind(self, value, way):
        """The pairs (tree, way) behind a tree that is right by itself, or None if it is not."""
        word = value[0]
        if word == "fail":
            return None if self._met(way) else []
        if word == "test":
            return self.branches(value, way) if self.is_right_test(value, way) else None
        index = value[1]
        if self.rows[index][1] != (word == "guard") or not self.is_met_first(way, index, value[2]):
            return None
        return [(value[3], Way(way.entries, way.asked_keys, index + 1))] if word == "guard" else []

    def is_right(self, value, most):
        """Whether any value is a right tree with at most so many nodes."""
        todo = [(value, Way({}, {}, 0))]
        many = 0
        while todo:
            tree, way = todo.pop()
            many += 1
            inside = parts_of_tree(tree, self.rows)
            if inside is None or many > most:
                return False
            pairs = [(part, None) for part in inside] if way is None else self.behind(tree, way)
            if pairs is None:
                return False
            todo.extend(pairs)
        return True
