"""Steps of the machine: what each instruction does."""

from letquay.data.faces import RESERVED_EXCEPTIONS
from letquay.machine.operating import UNIT, operate
from letquay.text.forms import ONE_OPERAND

STOPPED = ("stopped",)


def _go_on(state, frame, many, pushed):
    """Go on at the next instruction, without the last operands, so many, and with others."""
    unit, block, index, operands, slots, values, handlers = frame
    left = operands[:len(operands) - many]
    state.put_frame((unit, block, index + 1, (*left, *pushed), slots, values, handlers))


def _jump(state, frame, many, target):
    """Go on at another instruction, without the last operands, so many."""
    unit, block, _, operands, slots, values, handlers = frame
    state.put_frame((unit, block, target, operands[:len(operands) - many], slots, values, handlers))


def _throw(state, packet):
    """Raise a packet, which goes to the innermost open handler."""
    while state.chain is not None:
        frame, behind, _ = state.chain
        unit, block, _, operands, slots, values, handlers = frame
        if handlers:
            height, target = handlers[-1]
            state.put_frame((unit, block, target, (*operands[:height], packet), slots, values, handlers[:-1]))
            return
        state.chain = behind
    state.finish(("raised", state.labels[state.cells[packet[1]][1]]))


def _literal(state, instruction, frame):
    _go_on(state, frame, 0, (instruction,))


def _slot(state, instruction, frame):
    _go_on(state, frame, 0, (frame[4][instruction[1]],))


def _set(state, instruction, frame):
    unit, block, index, operands, slots, values, handlers = frame
    k = instruction[1]
    others = (*slots[:k], operands[-1], *slots[k + 1:])
    state.put_frame((unit, block, index + 1, operands[:-1], others, values, handlers))


def _drop(state, instruction, frame):
    _go_on(state, frame, 1, ())


def _free(state, instruction, frame):
    _go_on(state, frame, 0, (frame[5][instruction[1]],))


def _global(state, instruction, frame):
    _go_on(state, frame, 0, (state.tables[instruction[1]],))


def _last(frame, many):
    """The last operands of a frame, so many."""
    operands = frame[3]
    return operands[len(operands) - many:]


def _tuple(state, instruction, frame):
    many = instruction[1]
    value = state.new_cell(("tuple", _last(frame, many))) if many > 0 else UNIT
    _go_on(state, frame, many, (value,))


def _part(state, instruction, frame):
    cell = state.cell_of(frame[3][-1], "tuple")
    if cell is None or instruction[1] >= len(cell[1]):
        state.finish(STOPPED)
    else:
        _go_on(state, frame, 1, (cell[1][instruction[1]],))


def _con(state, instruction, frame):
    _, name, has = instruction
    if has:
        _go_on(state, frame, 1, (state.new_cell(("con", name, frame[3][-1])),))
    else:
        _go_on(state, frame, 0, (("word", name),))


def _carried(state, instruction, frame):
    value = frame[3][-1]
    cell = state.cell_of(value, "con")
    if cell is None:
        cell = state.cell_of(value, "packet")
    if cell is None or cell[2] is None:
        state.finish(STOPPED)
    else:
        _go_on(state, frame, 1, (cell[2],))


def _table(state, instruction, frame):
    keys = instruction[1]
    _go_on(state, frame, len(keys), (state.new_cell(("table", keys, _last(frame, len(keys)))),))


def _field(state, instruction, frame):
    value = state.field(frame[3][-1], instruction[1])
    if value is None:
        state.finish(STOPPED)
    else:
        _go_on(state, frame, 1, (value,))


def _exception(state, instruction, frame):
    state.labels.append(instruction[1])
    _go_on(state, frame, 0, (("exn", len(state.labels) - 1),))


def _reserved(state, instruction, frame):
    _go_on(state, frame, 0, (("exn", RESERVED_EXCEPTIONS.index(instruction[1])),))


def _packet(state, instruction, frame):
    many = 2 if instruction[1] else 1
    parts = _last(frame, many)
    if parts[0][0] != "exn":
        state.finish(STOPPED)
    else:
        cell = ("packet", parts[0][1], parts[1] if instruction[1] else None)
        _go_on(state, frame, many, (state.new_cell(cell),))


def _closure(state, instruction, frame):
    _, block, many = instruction
    _go_on(state, frame, many, (state.new_cell(("closure", frame[0], block, _last(frame, many))),))


def _group(state, instruction, frame):
    pairs = instruction[1]
    many = sum([pair[1] for pair in pairs])
    held = _last(frame, many)
    first = len(state.cells)
    functions = tuple([("at", first + k) for k in range(len(pairs))])
    at = 0
    for block, own in pairs:
        state.new_cell(("closure", frame[0], block, (*held[at:at + own], *functions)))
        at += own
    _go_on(state, frame, many, functions)


def _op(state, instruction, frame):
    many = 1 if instruction[1] in ONE_OPERAND else 2
    found = operate(state, instruction[1], _last(frame, many))
    if found[0] == "push":
        _go_on(state, frame, many, (found[1],))
    elif found[0] == "throw":
        _throw(state, state.new_cell(("packet", RESERVED_EXCEPTIONS.index(found[1]), None)))
    else:
        state.finish(STOPPED)


def _to(state, instruction, frame):
    _jump(state, frame, 0, instruction[1])


def _unless(state, instruction, frame):
    value = frame[3][-1]
    if value == ("word", "True"):
        _go_on(state, frame, 1, ())
    elif value == ("word", "False"):
        _jump(state, frame, 1, instruction[1])
    else:
        state.finish(STOPPED)


def _differs(state, instruction, frame):
    _, kind, what, target = instruction
    value = frame[3][-1]
    word = value[0]
    if kind == "con":
        value = state.cell_of(value, "con") if word == "at" else value
        word = "con" if value is not None and word in ("word", "at") else None
    if word != kind:
        state.finish(STOPPED)
    elif value[1] == what:
        _go_on(state, frame, 1, ())
    else:
        _jump(state, frame, 1, target)


def _strange(state, instruction, frame):
    packet, exception = _last(frame, 2)
    cell = state.cell_of(packet, "packet")
    if cell is None or exception[0] != "exn":
        state.finish(STOPPED)
    elif cell[1] == exception[1]:
        _go_on(state, frame, 2, ())
    else:
        _jump(state, frame, 2, instruction[1])


def _call(state, instruction, frame):
    """A call, also one in a tail place."""
    function, argument = _last(frame, 2)
    cell = state.cell_of(function, "closure")
    if cell is None:
        state.finish(STOPPED)
        return
    _, unit, block, values = cell
    many = state.blocks[unit][block][1]
    called = (unit, block, 0, (), (argument, *(None,) * (many - 1)), values, ())
    if instruction[0] == "tail":
        state.put_frame(called)
    else:
        _go_on(state, frame, 2, ())
        state.push(called)


def _return(state, instruction, frame):
    value = frame[3][-1]
    state.chain = state.chain[1]
    if state.chain is not None:
        unit, block, index, operands, slots, values, handlers = state.chain[0]
        state.put_frame((unit, block, index, (*operands, value), slots, values, handlers))
        return
    # The code that returns is that behind those whose tables are there.
    position = len(state.tables)
    state.tables = {**state.tables, state.codes[position][0]: value}
    if position + 1 < len(state.codes):
        state.begin_unit(position + 1)
    else:
        state.finish(("done",))


def _raise(state, instruction, frame):
    value = frame[3][-1]
    if state.cell_of(value, "packet") is None:
        state.finish(STOPPED)
    else:
        _throw(state, value)


def _handle(state, instruction, frame):
    unit, block, index, operands, slots, values, handlers = frame
    handler = (len(operands), instruction[1])
    state.put_frame((unit, block, index + 1, operands, slots, values, (*handlers, handler)))


def _unhandle(state, instruction, frame):
    unit, block, index, operands, slots, values, handlers = frame
    state.put_frame((unit, block, index + 1, operands, slots, values, handlers[:-1]))


STEPS = {
    "int": _literal, "string": _literal, "slot": _slot, "set": _set, "drop": _drop, "free": _free, "global": _global,
    "tuple": _tuple, "part": _part, "con": _con, "carried": _carried, "table": _table, "field": _field,
    "exception": _exception, "reserved": _reserved, "packet": _packet, "closure": _closure, "group": _group, "op": _op,
    "jump": _to, "unless": _unless, "differs": _differs, "strange": _strange, "call": _call, "tail": _call,
    "return": _return, "raise": _raise, "handle": _handle, "unhandle": _unhandle,
}


def do_step(state):
    """Do the next instruction; the triple (unit, block, index) that tells where it stands."""
    frame = state.chain[0]
    unit, block, index = frame[:3]
    instruction = state.blocks[unit][block][2][index]
    state.changed = None
    action = STEPS[instruction[0]]
    action(state, instruction, frame)
    return unit, block, index
