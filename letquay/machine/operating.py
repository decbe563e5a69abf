"""Operations of the machine. What they do is a pair: ("push", value), ("throw", name of an exception) or ("stop",)."""

from letquay.rules.operations import computed, joined
from letquay.text.literals import number_text

STOP = ("stop",)
UNIT = ("unit",)


def truth(value):
    """The value of a truth."""
    return ("word", "True" if value else "False")


def _kind_of(state, value):
    """What is compared: "int", "string", "tuple", "con" or "ref"; `None` for all else."""
    word = value[0]
    if word == "at":
        word = state.cells[value[1]][0]
        return word if word in ("tuple", "con", "ref") else None
    return {"int": "int", "string": "string", "unit": "tuple", "word": "con"}.get(word)


def _constructor_of(state, value):
    """The pair of the name and of what is carried, or `None`, of a constructor."""
    return (value[1], None) if value[0] == "word" else state.cells[value[1]][1:]


def _pairs_inside(state, kind, one, other):
    """The pairs that must be equal if two values of a kind are; `True` if they are not, `None` if this is stopped."""
    if kind == "tuple":
        members, others = state.seen(one)[1], state.seen(other)[1]
        return list(zip(members, others)) if len(members) == len(others) else None
    if kind != "con":
        return [] if one[1] == other[1] else True
    name, carried = _constructor_of(state, one)
    other_name, other_carried = _constructor_of(state, other)
    if name != other_name or (carried is None) != (other_carried is None):
        return True
    return [] if carried is None else [(carried, other_carried)]


def _compared(state, one, other):
    """What `=` does."""
    seen = {}
    todo = [(one, other)]
    while todo:
        one, other = todo.pop()
        if one[0] == "at" and other[0] == "at":
            if (one[1], other[1]) in seen:
                continue
            seen[(one[1], other[1])] = True
        kind = _kind_of(state, one)
        if kind is None or kind != _kind_of(state, other):
            return STOP
        pairs = _pairs_inside(state, kind, one, other)
        if pairs is None:
            return STOP
        if pairs is True:
            return "push", truth(False)
        todo.extend(pairs[::-1])
    return "push", truth(True)


def _pushed(word, pair):
    """What an operation with a result or an exception does."""
    result, name = pair
    return ("push", (word, result)) if name is None else ("throw", name)


def _read(state, value):
    if value != UNIT:
        return STOP
    if state.taken == len(state.given):
        return "throw", "End"
    state.taken += 1
    return "push", ("int", state.given[state.taken - 1])


def _with_one(state, word, value):
    """What an operation with one operand does."""
    if word == "ref":
        return "push", state.new_cell(("ref", value))
    if word == "!":
        cell = state.cell_of(value, "ref")
        return STOP if cell is None else ("push", cell[1])
    if word == "read":
        return _read(state, value)
    if value[0] != ("int" if word == "text" else "string"):
        return STOP
    if word == "text":
        return "push", ("string", number_text(value[1]))
    state.lines.append(value[1])
    return "push", UNIT


def operate(state, word, operands):
    """Do an operation, unless it is stopped."""
    if len(operands) == 1:
        return _with_one(state, word, operands[0])
    one, other = operands
    if word == "=":
        return _compared(state, one, other)
    if word == ":=":
        if state.cell_of(one, "ref") is None:
            return STOP
        state.change(one[1], ("ref", other))
        return "push", UNIT
    wanted = "string" if word == "^" else "int"
    if one[0] != wanted or other[0] != wanted:
        return STOP
    if word == "<":
        return "push", truth(one[1] < other[1])
    if word == "^":
        return _pushed("string", joined(one[1], other[1]))
    return _pushed("int", computed(word, one[1], other[1]))
