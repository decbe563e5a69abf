"""Trees of tests for matches."""

from letquay.cases.judging import TreeJudge
from letquay.cases.making import Making, left_of
from letquay.cases.rows import matched_rows
from letquay.cases.values import carried_by, has_form, is_int
from letquay.checks import is_whole
from letquay.errors import InvalidOperation, InvalidTree
from letquay.text.forms import is_literal_integer, is_literal_string
from letquay.text.names import is_high, is_high_path, is_low

MAX_TREE = 2000


def tree_of(book, face, T, rows):
    """A right tree for rows."""
    kinds, kind, found = matched_rows(book, face, T, rows)
    return Making(kinds, kind, rows, MAX_TREE).make(left_of(found))


def is_tree_of(book, face, T, rows, value):
    """Whether any value is a right tree for rows."""
    kinds, kind, found = matched_rows(book, face, T, rows)
    return TreeJudge(kinds, kind, rows, found).is_right(value, MAX_TREE)


def _is_place(value):
    """Whether the value is a place of a value."""
    if not isinstance(value, tuple):
        return False
    return all([is_whole(step) or is_high(step) or is_high_path(step) for step in value])


def _is_bound(value):
    """Whether the value is an ascending tuple of pairs (name, place)."""
    if not isinstance(value, tuple):
        return False
    if not all([isinstance(pair, tuple) and len(pair) == 2 and is_low(pair[0]) for pair in value]):
        return False
    names = [pair[0] for pair in value]
    return all([low < high for low, high in zip(names, names[1:])]) and all([_is_place(pair[1]) for pair in value])


def _is_pair(value):
    """Whether the value is a pair of a key and of what can be a tree."""
    if not isinstance(value, tuple) or len(value) != 2:
        return False
    return is_literal_integer(value[0]) or is_literal_string(value[0]) or is_high_path(value[0])


def _trees_in(value):
    """The list of the trees in any value, or None if it has not the form of a tree."""
    if has_form(value, "fail", 1):
        return []
    if has_form(value, "row", 3):
        return [] if is_whole(value[1]) and _is_bound(value[2]) else None
    if has_form(value, "guard", 4):
        return [value[3]] if is_whole(value[1]) and _is_bound(value[2]) else None
    if not has_form(value, "test", 4) or not _is_place(value[1]) or not isinstance(value[2], tuple):
        return None
    if not all([_is_pair(pair) for pair in value[2]]):
        return None
    return [*[pair[1] for pair in value[2]], *([] if value[3] is None else [value[3]])]


def _has_form_of_tree(value):
    todo = [value]
    while todo:
        inside = _trees_in(todo.pop())
        if inside is None:
            return False
        todo.extend(inside)
    return True


def _step(value, step):
    """The tuple of what stands one step below any value, or None if nothing does."""
    if is_whole(step):
        if not has_form(value, "tuple", 2) or not isinstance(value[1], tuple) or step >= len(value[1]):
            return None
        return (value[1][step],)
    found = carried_by(value, (step,) if isinstance(step, str) else step)
    if found is None or found[0] is None or (value[0] == "con") != isinstance(step, str):
        return None
    return found


def at_place(value, place):
    """What stands at a place of a value."""
    if not _is_place(place):
        raise InvalidOperation("this is no place of a value")
    for step in place:
        found = _step(value, step)
        if found is None:
            raise InvalidOperation("nothing stands at this place")
        value = found[0]
    return value


def _key_of(value):
    """The key of what stands at a place, or None if it is no value that can be asked."""
    if is_int(value) or isinstance(value, str):
        return value
    if has_form(value, "con", 3) and is_high(value[1]) or has_form(value, "exn", 3) and is_high_path(value[1]):
        return value[1]
    return ("thing",) if has_form(value, "thing", 1) else None


def _behind_test(tree, value):
    """The tree behind a test of a value."""
    _, place, table, other = tree
    try:
        key = _key_of(at_place(value, place))
    except InvalidOperation:
        raise InvalidTree("the tree asks for what the value has not") from None
    for wanted, inside in table:
        if wanted == key:
            return inside
    if key is None or other is None:
        raise InvalidTree("the tree asks for what the value has not")
    return other


def taken(tree, value, answers):
    """The triple of the row to which a tree leads, or None, of what it binds, and of the places of the tests."""
    if not _has_form_of_tree(tree):
        raise InvalidTree("this has not the form of a tree")
    if not isinstance(answers, tuple) or not all([isinstance(answer, bool) for answer in answers]):
        raise InvalidOperation("answers are a tuple of booleans")
    asked = []
    while tree[0] in ("test", "guard"):
        if tree[0] == "test":
            asked.append(tree[1])
            tree = _behind_test(tree, value)
        elif tree[1] >= len(answers):
            raise InvalidOperation("there is no answer for a guard")
        elif answers[tree[1]]:
            return tree[1], tree[2], tuple(asked)
        else:
            tree = tree[3]
    return (None, (), tuple(asked)) if tree[0] == "fail" else (tree[1], tree[2], tuple(asked))
