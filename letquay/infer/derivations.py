"""Derivations: a judge that goes through an expression and only compares the types that it is given.

Types are compared by their outlines, tuples without depth.
"""

from letquay.checks import is_ascending, is_place
from letquay.data.looking import check_scope
from letquay.errors import InvalidTree
from letquay.infer.lookups import looked_up
from letquay.infer.parts import is_final_tree, pattern_parts
from letquay.infer.walking import INT, OPERATIONS, STRING, UNIT
from letquay.text.trees import is_expression
from letquay.types.shapes import is_shape, outline
from letquay.types.terms import admits_with

BOOL_LINE = (("made", 3, 0),)
EXN_LINE = (("made", 4, 0),)


def line_of_function(one, other):
    """The outline of a function."""
    return (("fn", 0, 2), *one, *other)


def line_put(line, images):
    """An outline in which outlines are put in the place of some variables."""
    found = []
    for entry in line:
        if entry[0] == "var" and entry[1] in images:
            found.extend(images[entry[1]])
        else:
            found.append(entry)
    return tuple(found)


def variables_on(line):
    """The dict of the variables in an outline."""
    return {entry[1]: True for entry in line if entry[0] == "var"}


# What has types that are put in, or variables that are generalized.
WITH_MORE = ("name", "con", "let", "letrec")


class Judge:
    """A derivation that is judged: the outlines and what is put in or generalized, by places."""

    def __init__(self, book, found, rows, marked):
        self.book = book
        self.found = found
        self.admitting = marked
        self.given = {place: T for place, T, _ in rows}
        self.lines = {place: outline(T) for place, T, _ in rows}
        self.more = {place: more for place, _, more in rows}

    def outline_at(self, place):
        """The outline of the type at a place."""
        return self.lines[place]

    def meaning_at(self, place):
        """What the name or annotation at a place means."""
        return self.found[place]

    def lines_put_in(self, place, many):
        """The outlines of the types that are put in at a place, or None if there are not so many."""
        more = self.more[place]
        if len(more) != many or not all([is_shape(T, self.book.arities) for T in more]):
            return None
        return [outline(T) for T in more]

    def is_instance(self, place, line, numbers, marks):
        """Whether the type at a place is one with the types at it put in for some variables, some of them marked."""
        images = self.lines_put_in(place, len(numbers))
        if images is None:
            return False
        for number, T in zip(numbers, self.more[place]):
            if number in marks and not admits_with(self.book, T, self.admitting):
                return False
        put = {number: image for number, image in zip(numbers, images)}
        return line_put(line, put) == self.lines[place]

    def admits(self, place):
        """Whether the type at a place admits equality."""
        return admits_with(self.book, self.given[place], self.admitting)

    def is_generalized(self, place, bound, names, final):
        """Whether what is generalized at a place, for bound names, can be; `names` has the locals that it can see."""
        more = self.more[place]
        if not is_ascending(more):
            return False
        standing = {}
        for line in list(bound.values()):
            standing.update(variables_on(line))
        kept = {}
        for line, general in list(names.values()):
            kept.update({number: True for number in variables_on(line) if number not in general})
        return all([final and number in standing and number not in kept for number in more])


def _with_general(bound, more):
    """The locals for bound outlines: pairs of the outline and the tuple of its generalized variables."""
    return {
        name: (line, tuple([number for number in more if number in variables_on(line)]))
        for name, line in bound.items()}


def _con_lines(judge, place):
    """The outlines of the type of a constructor or exception, and of what it carries or None; None if it is wrong."""
    kind, *rest = judge.found[place]
    many = 0 if kind == "exn" else judge.book.arity(rest[0])
    images = judge.lines_put_in(place, many)
    if images is None:
        return None
    if kind == "exn":
        return EXN_LINE, None if rest[0] is None else outline(rest[0])
    own = [("made", rest[0], many)]
    for image in images:
        own.extend(image)
    carried = judge.book.constructors(rest[0])[rest[1]][1]
    put = {number: image for number, image in enumerate(images)}
    return tuple(own), None if carried is None else line_put(outline(carried), put)


def _judge_con_pattern(judge, tree, place, bound):
    lines = _con_lines(judge, place)
    if lines is None or lines[0] != judge.lines[place]:
        return False
    if tree[2] is None:
        return True
    return lines[1] == judge.outline_at((*place, 2)) and judge_pattern(judge, tree[2], (*place, 2), bound)


def _judge_or(judge, tree, place, bound):
    other = {}
    if not judge_pattern(judge, tree[1], (*place, 1), bound) or not judge_pattern(judge, tree[2], (*place, 2), other):
        return False
    line = judge.lines[place]
    same = [bound[name] == other[name] for name in other]
    return all(same) and line == judge.outline_at((*place, 1)) and line == judge.outline_at((*place, 2))


def judge_pattern(judge, tree, place, bound):
    """Whether a pattern is typed right; the outlines of the names that it binds come into a dict."""
    word = tree[0]
    line = judge.lines[place]
    if word in ("name", "as"):
        bound[tree[1]] = line
    if word == "con":
        return _judge_con_pattern(judge, tree, place, bound)
    if judge.more[place] != ():
        return False
    if word == "or":
        return _judge_or(judge, tree, place, bound)
    if word in ("int", "string"):
        return line == outline(INT if word == "int" else STRING)
    parts = pattern_parts(tree)
    if not all([judge_pattern(judge, part, (*place, *steps), bound) for steps, part in parts]):
        return False
    if word == "as":
        return line == judge.outline_at((*place, 2))
    return word != "tuple" or line == _tuple_line(judge, [(*place, *steps) for steps, _ in parts])


def _tuple_line(judge, places):
    found = [("tuple", 0, len(places))]
    for place in places:
        found.extend(judge.lines[place])
    return tuple(found)


def judge_rows(judge, rows, place, names):
    """The outlines from which and to which rows lead, or None if they are typed wrong."""
    one, other = judge.outline_at((*place, 0, 0)), judge.outline_at((*place, 0, 2))
    for k, (head, guard, body) in enumerate(rows):
        bound = {}
        if not judge_pattern(judge, head, (*place, k, 0), bound):
            return None
        if judge.outline_at((*place, k, 0)) != one or judge.outline_at((*place, k, 2)) != other:
            return None
        inner = {**names, **_with_general(bound, ())}
        if guard is not None and not _judge_truth(judge, guard, (*place, k, 1), inner):
            return None
        if not judge_expression(judge, body, (*place, k, 2), inner):
            return None
    return one, other


def _judge_truth(judge, tree, place, names):
    return judge.lines[place] == BOOL_LINE and judge_expression(judge, tree, place, names)


def judge_functions(judge, functions, place, names):
    """The dict of the outlines of functions by names, or None if they are typed wrong."""
    bound = {}
    for k, (name, _) in enumerate(functions):
        bound[name] = line_of_function(judge.outline_at((*place, k, 1, 0, 0)), judge.outline_at((*place, k, 1, 0, 2)))
    inner = {**names, **_with_general(bound, ())}
    for k, (_, rows) in enumerate(functions):
        if judge_rows(judge, rows, (*place, k, 1), inner) is None:
            return None
    return bound


def judge_bound(judge, head, body, place, names):
    """The dict of the outlines of what a pattern binds, with the places of a let, or None if it is typed wrong."""
    bound = {}
    if not judge_pattern(judge, head, (*place, 1), bound) or not judge_expression(judge, body, (*place, 2), names):
        return None
    return bound if judge.outline_at((*place, 1)) == judge.outline_at((*place, 2)) else None


def _let(judge, tree, place, names):
    if tree[0] == "let":
        bound = judge_bound(judge, tree[1], tree[2], place, names)
    else:
        bound = judge_functions(judge, tree[1], (*place, 1), names)
    final = tree[0] == "letrec" or is_final_tree(tree[2])
    if bound is None or not judge.is_generalized(place, bound, names, final):
        return False
    at = len(tree) - 1
    inner = {**names, **_with_general(bound, judge.more[place])}
    last = (*place, at)
    return judge.lines[place] == judge.outline_at(last) and judge_expression(judge, tree[at], last, inner)


def _name(judge, tree, place, names):
    path = tree[1]
    if len(path) == 1 and path[0] in names:
        line, general = names[path[0]]
        return judge.is_instance(place, line, general, judge.admitting)
    scheme = judge.found[place]
    return judge.is_instance(place, outline(scheme.body), tuple(range(scheme.total)), scheme.marks)


def _con(judge, tree, place, names):
    lines = _con_lines(judge, place)
    if lines is None:
        return False
    own, carried = lines
    return judge.lines[place] == (own if carried is None else line_of_function(carried, own))


def _literal(judge, tree, place, names):
    return judge.lines[place] == outline(INT if tree[0] == "int" else STRING)


def _tuple(judge, tree, place, names):
    places = [(*place, 1, k) for k in range(len(tree[1]))]
    if judge.lines[place] != _tuple_line(judge, places):
        return False
    return all([judge_expression(judge, part, at, names) for part, at in zip(tree[1], places)])


def _call(judge, tree, place, names):
    one, other = (*place, 1), (*place, 2)
    if judge.lines[one] != line_of_function(judge.lines[other], judge.lines[place]):
        return False
    return judge_expression(judge, tree[1], one, names) and judge_expression(judge, tree[2], other, names)


def _fn(judge, tree, place, names):
    lines = judge_rows(judge, tree[1], (*place, 1), names)
    return lines is not None and judge.lines[place] == line_of_function(lines[0], lines[1])


def _match(judge, tree, place, names):
    """Whether a case or handle is typed right."""
    lines = judge_rows(judge, tree[2], (*place, 2), names)
    if lines is None or lines[1] != judge.lines[place]:
        return False
    inside = judge.outline_at((*place, 1))
    fits = inside == lines[0] if tree[0] == "case" else lines[0] == EXN_LINE and inside == lines[1]
    return fits and judge_expression(judge, tree[1], (*place, 1), names)


def _typed(judge, tree, place, names):
    wanted = outline(judge.meaning_at((*place, 2)))
    if judge.lines[place] != wanted or judge.outline_at((*place, 1)) != wanted:
        return False
    return judge_expression(judge, tree[1], (*place, 1), names)


def _in_order(judge, tree, place, names):
    """Whether what has plain parts is typed right: an if, raise, then, while, both or either."""
    word = tree[0]
    own = judge.lines[place]
    inside = [judge.outline_at((*place, k)) for k in range(1, len(tree))]
    fits = {
        "if": inside == [BOOL_LINE, own, own],
        "raise": inside == [EXN_LINE],
        "then": inside[1:] == [own],
        "while": inside[:1] == [BOOL_LINE] and own == outline(UNIT),
        "both": [*inside, own] == [BOOL_LINE, BOOL_LINE, BOOL_LINE],
        "either": [*inside, own] == [BOOL_LINE, BOOL_LINE, BOOL_LINE],
    }
    if not fits[word]:
        return False
    return all([judge_expression(judge, part, (*place, k), names) for k, part in enumerate(tree[1:], start=1)])


def _general_operand(judge, tree, place):
    """The outline that stands for the new variable of an operation, if it has one."""
    if tree[1] == "!":
        return judge.lines[place]
    if tree[1] == ":=":
        return judge.outline_at((*place, 2, 1))
    return judge.outline_at((*place, 2, 0))


def _op(judge, tree, place, names):
    *operands, result = OPERATIONS[tree[1]]
    put = {0: _general_operand(judge, tree, place)}
    wanted = [line_put(outline(T), put) for T in operands]
    places = [(*place, 2, k) for k in range(len(operands))]
    if wanted != [judge.lines[at] for at in places] or line_put(outline(result), put) != judge.lines[place]:
        return False
    if tree[1] == "=" and not judge.admits(places[0]):
        return False
    return all([judge_expression(judge, part, at, names) for part, at in zip(tree[2], places)])


STEPS = {
    "int": _literal, "string": _literal, "name": _name, "con": _con, "tuple": _tuple, "fn": _fn, "call": _call,
    "let": _let, "letrec": _let, "case": _match, "if": _in_order, "raise": _in_order, "handle": _match,
    "then": _in_order, "while": _in_order, "both": _in_order, "either": _in_order, "typed": _typed, "op": _op,
}


def judge_expression(judge, tree, place, names):
    """Whether an expression is typed right; `names` has the locals that it can see."""
    word = tree[0]
    if word not in WITH_MORE and judge.more[place] != ():
        return False
    step = STEPS[word]
    return step(judge, tree, place, names)


def _is_row(value, place, arities):
    """Whether the value is a row for a place, as far as it can be seen without its node."""
    if not isinstance(value, tuple) or len(value) != 3 or not is_place(value[0]) or value[0] != place:
        return False
    return is_shape(value[1], arities) and isinstance(value[2], tuple)


def _judge_of(book, look, value):
    """The judge of what has the form of a derivation, else None."""
    if not isinstance(value, tuple) or len(value) != 2 or not isinstance(value[0], tuple) or not is_ascending(value[1]):
        return None
    rows, marked = value
    if len(rows) != len(look.places):
        return None
    if not all([_is_row(row, place, book.arities) for row, place in zip(rows, look.places)]):
        return None
    return Judge(book, look.found, rows, marked)


def is_derivation(book, face, tree, value):
    """Whether the value is a right derivation of an expression."""
    check_scope(book, face)
    if not is_expression(tree):
        raise InvalidTree("this is no expression")
    judge = _judge_of(book, looked_up(book, face, tree), value)
    return judge is not None and judge_expression(judge, tree, (), {})


def _bound_lines(judge, tree):
    """The outlines of the names of a declaration, and whether their variables can be generalized."""
    if tree[0] == "rec":
        return judge_functions(judge, tree[1], (1,), {}), True
    return judge_bound(judge, tree[1], tree[2], (), {}), is_final_tree(tree[2])


def is_right_declaration(book, look, tree, value):
    """Whether the value is a right derivation of a declaration of values, whose names have been looked up."""
    judge = _judge_of(book, look, value)
    if judge is None:
        return False
    bound, final = _bound_lines(judge, tree)
    if bound is None:
        return False
    return final or not any([variables_on(line) for line in list(bound.values())])
