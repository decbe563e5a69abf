"""Rows: what they meet and what they leave out."""

from letquay.cases.examples import Examples
from letquay.cases.kinds import Kinds
from letquay.cases.patterns import alternatives_in, alternatives_of, count_alternatives, fits_kind, merged
from letquay.cases.search import Search, is_found, told_pattern
from letquay.cases.values import bound_by_meeting, entries_of_told, is_told, is_value_of_kind, meets_told
from letquay.data.looking import check_scope
from letquay.errors import InvalidOperation, InvalidPattern, TooMany
from letquay.text.trees import is_pattern
from letquay.types.terms import check_type

MAX_ALTERNATIVES = 64
MAX_MISSING = 200


def kinds_for(book, face, T):
    """The pair of the kinds and of the number of a type; an error unless it is one of the book, and the face for it."""
    check_scope(book, face)
    check_type(book, T)
    kinds = Kinds(book, face)
    return kinds, kinds.add(T, ())


def are_rows(value):
    """Whether the value is a tuple of one or more pairs (pattern, guarded)."""
    if not isinstance(value, tuple) or len(value) == 0:
        return False
    if not all([isinstance(row, tuple) and len(row) == 2 and isinstance(row[1], bool) for row in value]):
        return False
    return all([is_pattern(row[0]) for row in value])


def _check_alternatives(patterns):
    """Raise an error if patterns have too many alternatives together."""
    if sum([count_alternatives(pattern) for pattern in patterns]) > MAX_ALTERNATIVES:
        raise TooMany(MAX_ALTERNATIVES)


def matched_rows(book, face, T, rows):
    """The triple of the kinds, the number of the type, and the list of the alternatives of all rows."""
    kinds, kind = kinds_for(book, face, T)
    if not are_rows(rows) or not all([fits_kind(kinds, kind, row[0], {}) for row in rows]):
        raise InvalidPattern("these are no rows whose patterns fit the type")
    _check_alternatives([row[0] for row in rows])
    return kinds, kind, alternatives_in(kinds, rows)


def fits(book, face, T, value):
    """Whether the value is a pattern that fits a type."""
    kinds, kind = kinds_for(book, face, T)
    return is_pattern(value) and fits_kind(kinds, kind, value, {})


def is_value_of(book, face, T, value):
    """Whether any value is one of a type."""
    kinds, kind = kinds_for(book, face, T)
    return is_value_of_kind(kinds, value, kind)


def is_told_of(book, face, T, value):
    """Whether any value is a told pattern that fits a type."""
    kinds, kind = kinds_for(book, face, T)
    return is_told(value) and entries_of_told(kinds, kind, value, (), {})


def alternatives(pattern):
    """The tuple of the alternatives of a pattern."""
    if not is_pattern(pattern):
        raise InvalidPattern("this is no pattern")
    _check_alternatives([pattern])
    return tuple(alternatives_of(pattern))


def _bound(value, pattern):
    """The ascending dict of what a value binds by a pattern, or None if it does not meet it."""
    found = {}
    if not bound_by_meeting(value, pattern, found):
        return None
    return {name: found[name] for name in sorted(found)}


def meets(value, pattern):
    """What any value binds by a pattern, or None if it does not meet it."""
    if not is_pattern(pattern):
        raise InvalidPattern("this is no pattern")
    _check_alternatives([pattern])
    return _bound(value, pattern)


def is_met(value, told):
    """Whether any value meets a told pattern."""
    if not is_told(told):
        raise InvalidPattern("this is no told pattern")
    return meets_told(value, told)


def taken_row(value, rows, answers):
    """The pair of the index of the row that is taken, and of what the value binds, or None."""
    if not are_rows(rows):
        raise InvalidPattern("these are no rows")
    if not isinstance(answers, tuple) or not all([isinstance(answer, bool) for answer in answers]):
        raise InvalidOperation("answers are booleans")
    if len(answers) != len(rows):
        raise InvalidOperation("there is an answer for each row")
    _check_alternatives([row[0] for row in rows])
    for index, (pattern, guarded) in enumerate(rows):
        bound = _bound(value, pattern)
        if bound is not None and (not guarded or answers[index]):
            return index, bound
    return None


def _plain_entries(rows, found):
    """The entries of the alternatives of all rows without a guard."""
    return [alternative.entries for alternative in found if not rows[alternative.row][1]]


def missing(book, face, T, rows):
    """The missing patterns."""
    kinds, kind, found = matched_rows(book, face, T, rows)
    told = Search(kinds, _plain_entries(rows, found), {}).run(kind, MAX_MISSING)
    if len(told) > MAX_MISSING:
        raise TooMany(MAX_MISSING)
    return tuple([told_pattern(tokens) for tokens in told])


def is_missing(book, face, T, rows, value):
    """Whether the value is a tuple of told patterns that together meet just the missing values."""
    kinds, kind, found = matched_rows(book, face, T, rows)
    if not isinstance(value, tuple) or not all([is_told(told) for told in value]):
        return False
    plain = _plain_entries(rows, found)
    wanted = []
    for told in value:
        entries = {}
        if not entries_of_told(kinds, kind, told, (), entries):
            return False
        if any([merged(entries, other) is not None for other in plain]):
            return False
        wanted.append(entries)
    return not is_found(kinds, kind, [*plain, *wanted], {})


def _idle(book, face, T, rows):
    """The idle rows, and the pairs (row, index) of all idle alternatives."""
    kinds, kind, found = matched_rows(book, face, T, rows)
    idle_ones, idle = [], []
    ahead = []
    for index, (_, guarded) in enumerate(rows):
        own = [alternative.entries for alternative in found if alternative.row == index]
        if not any([is_found(kinds, kind, ahead, entries) for entries in own]):
            idle_ones.append(index)
        else:
            for k, entries in enumerate(own):
                if not is_found(kinds, kind, [*ahead, *own[:k]], entries):
                    idle.append((index, k))
        if not guarded:
            ahead.extend(own)
    return tuple(idle_ones), tuple(idle)


def idle_rows(book, face, T, rows):
    """The ascending tuple of the indices of idle rows."""
    return _idle(book, face, T, rows)[0]


def idle_alternatives(book, face, T, rows):
    """The ascending tuple of the pairs (row, index) of idle alternatives."""
    return _idle(book, face, T, rows)[1]


def example(book, face, T, told):
    """A value that meets a told pattern."""
    kinds, kind = kinds_for(book, face, T)
    if not is_told(told) or not entries_of_told(kinds, kind, told, (), {}):
        raise InvalidPattern("this is no told pattern that fits the type")
    return Examples(kinds).met(kind, told)
