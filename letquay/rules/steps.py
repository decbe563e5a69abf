"""Steps of runs: declaring, looking, trying, comparing and carrying."""

from letquay.rules.cutting import shape_of
from letquay.rules.giving import finish, give_to_frame
from letquay.rules.values import (
    FALSE, TRUE, UNIT, is_met, item_at, reserved_packet, value_of_tag, with_functions, with_values,
)


def _declare_functions(play, tree, scope):
    seen = with_functions(scope, tree[1])
    items = {("value", name): ("fn", rows, seen) for name, rows in tree[1]}
    finish(play, items, True)


def _items_of_types(play, tree, scope):
    """The items of a declaration of types or of an exception."""
    word = tree[0]
    if word == "exception":
        return {("tag", tree[1]): ("exn", play.new_exception(tree[1]), tree[2] is not None)}
    if word == "alias":
        return {("tag", tree[1]): item_at(scope, "tag", tree[2])}
    if word == "data":
        return {
            ("tag", name): ("con", name, carried is not None)
            for _, _, constructors in tree[1] for name, carried in constructors}
    return {}


def _declare(play):
    """Take the next declaration."""
    _, trees, index, scope, _, _ = play.chain[0]
    tree = trees[index]
    word = tree[0]
    if word == "val":
        play.push(("val", tree[1], scope))
        play.look(tree[2], scope)
    elif word == "structure":
        play.push(("structure", tree[1]))
        play.look(tree[2], scope)
    elif word == "rec":
        _declare_functions(play, tree, scope)
    elif word == "open":
        finish(play, item_at(scope, "structure", tree[1])[1], False)
    elif word == "functor":
        item = ("functor", tree[2], shape_of(scope, tree[3]), tree[4], scope)
        finish(play, {("functor", tree[1]): item}, False)
    elif word == "signature":
        finish(play, {("signature", tree[1]): ("shape", shape_of(scope, tree[2]))}, False)
    else:
        finish(play, _items_of_types(play, tree, scope), True)


def _look_at_leaf(play, tree, scope):
    """Give the value of what has no parts that are looked at."""
    word = tree[0]
    if word in ("int", "string"):
        play.give(tree)
    elif word == "name":
        play.give(item_at(scope, "value", tree[1]))
    elif word == "con":
        play.give(value_of_tag(item_at(scope, "tag", tree[1])))
    elif word == "fn":
        play.give(("fn", tree[1], scope))
    elif word == "at":
        play.give(item_at(scope, "structure", tree[1]))
    else:
        play.give(UNIT)


def _look_at_members(play, tree, scope):
    """A tuple that is not empty, or an operation."""
    trees = tree[-1]
    play.push((tree[0], tree[1], trees, (), scope))
    play.look(trees[0], scope)


def _look_at_struct(play, tree, scope):
    if tree[1]:
        play.push(("list", tree[1], 0, scope, {}, False))
        play.word = "declare"
        play.what = None
    else:
        play.give(("table", {}))


def _frame_of(tree, scope):
    """The frame of an expression or structure, and its part that is looked at first."""
    word = tree[0]
    if word == "call":
        return ("function", tree[2], scope), tree[1]
    if word == "let":
        return ("let", tree[1], tree[3], scope), tree[2]
    if word in ("case", "handle"):
        return (word, tree[2], scope), tree[1]
    if word == "if":
        return ("if", tree[2], tree[3], scope), tree[1]
    if word == "raise":
        return ("raise",), tree[1]
    if word in ("then", "both", "either"):
        return (word, tree[2], scope), tree[1]
    if word == "while":
        return ("while", tree[1], tree[2], scope), tree[1]
    if word in ("seal", "fit"):
        return ("cut", tree[2], scope), tree[1]
    return ("apply", tree[1], scope), tree[2]


def _look(play):
    tree, scope = play.what
    word = tree[0]
    if word in ("int", "string", "name", "con", "fn", "at") or tree == UNIT:
        _look_at_leaf(play, tree, scope)
    elif word == "typed":
        play.look(tree[1], scope)
    elif word == "letrec":
        play.look(tree[2], with_functions(scope, tree[1]))
    elif word in ("tuple", "op"):
        _look_at_members(play, tree, scope)
    elif word == "struct":
        _look_at_struct(play, tree, scope)
    else:
        frame, first = _frame_of(tree, scope)
        play.push(frame)
        play.look(first, scope)


def _try(play):
    """Try the next row."""
    rows, index, value, scope, carried = play.what
    if index == len(rows):
        play.carry(reserved_packet("Match") if carried is None else carried)
        return
    pattern, guard, body = rows[index]
    bound = {}
    if not is_met(value, pattern, scope, bound):
        play.what = (rows, index + 1, value, scope, carried)
        return
    inner = with_values(scope, bound)
    if guard is None:
        play.look(body, inner)
    else:
        play.push(("guard", play.what, inner))
        play.look(guard, inner)


def _behind_pair(one, other, rest):
    """The pairs that are left behind an equal head of a pair, or `False` if the heads are unlike."""
    word = one[0]
    if word == "tuple":
        for inner, there in list(zip(one[1], other[1]))[::-1]:
            rest = (inner, there, rest)
        return rest
    if one[1] != other[1]:
        return False
    if word == "con" and one[2] is not None:
        return (one[2], other[2], rest)
    return rest


def _compare(play):
    rest = _behind_pair(*play.what)
    if rest is None:
        play.give(TRUE)
    elif rest is False:
        play.give(FALSE)
    else:
        play.what = rest


def _carry(play):
    """Remove the newest frame, which may be that of a handle."""
    frame = play.take()
    if frame[0] == "handle":
        _, rows, scope = frame
        play.try_rows(rows, play.what, scope, play.what)
    elif play.chain is None:
        play.be_over(play.what)


def _give(play):
    give_to_frame(play)


STEPS = {
    "declare": _declare, "look": _look, "give": _give, "try": _try, "compare": _compare, "carry": _carry,
}


def do_step(play):
    """Do the next step."""
    play.changed = None
    action = STEPS[play.word]
    action(play)
