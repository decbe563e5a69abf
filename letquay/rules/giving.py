"""Giving: what a run does with a value that is given to the newest frame."""

from letquay.rules.cutting import cut, shape_of
from letquay.rules.operations import computed, joined
from letquay.rules.values import (
    TRUE, UNIT, built, is_met, item_of, reserved_packet, truth, with_items, with_values,
)
from letquay.text.literals import number_text


def finish(play, items, declared):
    """Let the declaration of the newest frame be done: items come into its scope, and into its table if declared."""
    _, trees, index, scope, table, own = play.chain[0]
    if declared:
        table = {**table, **items}
    if index + 1 < len(trees):
        play.put_frame(("list", trees, index + 1, with_items(scope, items), table, own))
        play.word = "declare"
        play.what = None
        return
    play.take()
    if own:
        play.be_done(len(trees), with_items(scope, items), table)
    else:
        play.give(("table", table))


def _number_or_raise(play, pair):
    """Give an integer, or raise an exception."""
    number, name = pair
    if name is None:
        play.give(("int", number))
    else:
        play.carry(reserved_packet(name))


def _text_or_raise(play, pair):
    text, name = pair
    if name is None:
        play.give(("string", text))
    else:
        play.carry(reserved_packet(name))


def _with_one(play, word, value):
    """Do an operation with one operand."""
    if word == "!":
        play.give(play.cells[value[1]])
    elif word == "ref":
        play.give(play.new_reference(value))
    elif word == "text":
        play.give(("string", number_text(value[1])))
    elif word == "print":
        play.lines.append(value[1])
        play.give(UNIT)
    else:
        found = play.next_input()
        if found is None:
            play.carry(reserved_packet("End"))
        else:
            play.give(found)


def operate(play, word, operands):
    """Do an operation."""
    if len(operands) == 1:
        _with_one(play, word, operands[0])
        return
    one, other = operands
    if word == "=":
        play.word = "compare"
        play.what = (one, other, None)
    elif word == ":=":
        play.put_into(one[1], other)
        play.give(UNIT)
    elif word == "<":
        play.give(truth(one[1] < other[1]))
    elif word == "^":
        _text_or_raise(play, joined(one[1], other[1]))
    else:
        _number_or_raise(play, computed(word, one[1], other[1]))


def _members(play, frame, value):
    """A tuple or an operation."""
    word, what, trees, found, scope = frame
    found = (*found, value)
    if len(found) < len(trees):
        play.put_frame((word, what, trees, found, scope))
        play.look(trees[len(found)], scope)
        return
    play.take()
    if word == "tuple":
        play.give(("tuple", found))
    else:
        operate(play, what, found)


def _function(play, frame, value):
    """The function of a call."""
    _, tree, scope = frame
    play.put_frame(("argument", value))
    play.look(tree, scope)


def _argument(play, frame, value):
    play.take()
    function = frame[1]
    if function[0] == "build":
        play.give(built(function, value))
    else:
        play.try_rows(function[1], value, function[2], None)


def _let(play, frame, value):
    _, pattern, body, scope = play.take()
    bound = {}
    if is_met(value, pattern, scope, bound):
        play.look(body, with_values(scope, bound))
    else:
        play.carry(reserved_packet("Match"))


def _val(play, frame, value):
    _, pattern, scope = play.take()
    bound = {}
    if is_met(value, pattern, scope, bound):
        finish(play, {("value", name): found for name, found in bound.items()}, True)
    else:
        play.carry(reserved_packet("Match"))


def _case(play, frame, value):
    _, rows, scope = play.take()
    play.try_rows(rows, value, scope, None)


def _if(play, frame, value):
    _, one, other, scope = play.take()
    play.look(one if value == TRUE else other, scope)


def _raise(play, frame, value):
    play.take()
    play.carry(value)


def _handle(play, frame, value):
    play.take()
    play.give(value)


def _then(play, frame, value):
    _, tree, scope = play.take()
    play.look(tree, scope)


def _while(play, frame, value):
    """Behind the condition, or behind the body."""
    word, condition, body, scope = frame
    if word == "body":
        play.put_frame(("while", condition, body, scope))
        play.look(condition, scope)
    elif value == TRUE:
        play.put_frame(("body", condition, body, scope))
        play.look(body, scope)
    else:
        play.take()
        play.give(UNIT)


def _logic(play, frame, value):
    """Both or either."""
    word, tree, scope = play.take()
    if (value == TRUE) == (word == "either"):
        play.give(value)
    else:
        play.look(tree, scope)


def _guard(play, frame, value):
    _, (rows, index, tried, scope, carried), inner = play.take()
    if value == TRUE:
        play.look(rows[index][2], inner)
    else:
        play.word = "try"
        play.what = (rows, index + 1, tried, scope, carried)


def _structure(play, frame, value):
    play.take()
    finish(play, {("structure", frame[1]): value}, True)


def _cut(play, frame, value):
    """A sealed or fitted structure."""
    _, tree, scope = play.take()
    play.give(cut(value, shape_of(scope, tree)))


def _apply(play, frame, value):
    _, name, scope = play.take()
    _, parameter, shape, body, inner = item_of(scope, "functor", name)
    play.look(body, with_items(inner, {("structure", parameter): cut(value, shape)}))


GIVES = {
    "tuple": _members, "op": _members, "function": _function, "argument": _argument, "let": _let, "val": _val,
    "case": _case, "if": _if, "raise": _raise, "handle": _handle, "then": _then, "while": _while, "body": _while,
    "both": _logic, "either": _logic, "guard": _guard, "structure": _structure, "cut": _cut, "apply": _apply,
}


def give_to_frame(play):
    """Give a value to the newest frame."""
    frame = play.chain[0]
    action = GIVES[frame[0]]
    action(play, frame, play.what)
