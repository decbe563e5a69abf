"""Compiling: sound code for core terms.

What is still to be made is a list of tuples (action, ..), the next one last, so that no term is too deep. Values that
are matched are kept in slots; what a pattern finds out leaves nothing among the operands. Each function is a block of
its own; what it names of the blocks around it, it holds.
"""

from letquay.code.blocks import Code, are_units
from letquay.code.building import Bindings, Block
from letquay.code.core import free_units
from letquay.code.meeting import add_part, add_pattern
from letquay.errors import InvalidOperation

MATCH = (("reserved", "Match"), ("packet", False), ("raise",))


class Making:
    """Makes the blocks of a term."""

    def __init__(self):
        self.blocks = [None]
        # The blocks that are being made, the innermost last, with the numbers that they will have.
        self.levels = [(0, Block(0))]
        self.bindings = Bindings()
        self.todo = []

    def block(self):
        """The innermost block."""
        return self.levels[-1][1]

    def emit(self, instruction):
        """Add an instruction to the innermost block."""
        self.block().add_instruction(instruction)

    def emit_all(self, instructions):
        """Add instructions to the innermost block."""
        for instruction in instructions:
            self.emit(instruction)

    def later(self, actions):
        """Do some actions next, in order."""
        self.todo.extend(actions[::-1])

    def make(self, core):
        """The blocks of a term."""
        self.later([("term", core, True)])
        while self.todo:
            word, *rest = self.todo.pop()
            action = ACTIONS[word]
            action(self, *rest)
        self.end_block(0)
        return tuple(self.blocks)

    def push_binding(self, binding):
        """Push what a binding stands for; blocks inside of its own one hold it."""
        level, word, place = binding
        if level == len(self.levels) - 1:
            self.emit((word, place))
        else:
            self.emit(("free", self.block().held_at(binding)))

    def push_name(self, key):
        """Push what a name stands for."""
        binding = self.bindings.innermost(key)
        if binding is None:
            self.emit(("global", key[1]))
        else:
            self.push_binding(binding)

    def begin_block(self):
        """Begin a block of a function."""
        self.levels.append((len(self.blocks), Block(1)))
        self.blocks.append(None)

    def end_block(self, siblings):
        """End the innermost block, of a function of a group of so many: its number, and the bindings that it holds."""
        number, block = self.levels.pop()
        self.blocks[number] = block.finished(siblings)
        return number, list(block.held)


def _end(making, tail):
    """End a term, whose value has been pushed."""
    if tail:
        making.emit(("return",))


def _literal(making, core, tail):
    making.emit(core)
    _end(making, tail)


def _name(making, core, tail):
    making.push_name(core[1])
    _end(making, tail)


def _members(making, terms, instruction, tail):
    """Terms one behind the other, and an instruction that takes all their values."""
    making.later([*[("term", term, False) for term in terms], ("emit", (instruction,)), ("end", tail)])


def _tuple(making, core, tail):
    _members(making, core[1], ("tuple", len(core[1])), tail)


def _con(making, core, tail):
    carried = () if core[2] is None else (core[2],)
    _members(making, carried, ("con", core[1], core[2] is not None), tail)


def _table(making, core, tail):
    _members(making, [field[1] for field in core[1]], ("table", tuple([field[0] for field in core[1]])), tail)


def _field(making, core, tail):
    _members(making, (core[1],), ("field", core[2]), tail)


def _packet(making, core, tail):
    parts = (core[1],) if core[2] is None else core[1:]
    _members(making, parts, ("packet", core[2] is not None), tail)


def _op(making, core, tail):
    _members(making, core[2], ("op", core[1]), tail)


def _raise(making, core, tail):
    making.later([("term", core[1], False), ("emit", (("raise",),))])


def _call(making, core, tail):
    making.later([("term", core[1], False), ("term", core[2], False), ("emit", (("tail",) if tail else ("call",),))])


def _fn(making, core, tail):
    making.later([("function", core[1]), ("closure", tail)])


def _function(making, rows):
    """The block of a function with some rows, which is the innermost one until it is ended."""
    making.begin_block()
    making.later([("rows", rows, 0, None, None)])


def _closure(making, tail):
    number, held = making.end_block(0)
    for binding in held:
        making.push_binding(binding)
    making.emit(("closure", number, len(held)))
    _end(making, tail)


def _let(making, core, tail):
    bound = []
    making.later([*[("pair", pair, bound) for pair in core[1]], ("term", core[2], tail), ("unbind", bound)])


def _pair(making, pair, bound):
    head, body = pair
    if head is None:
        _group(making, body, bound)
        return
    slot = making.block().new_slot()
    failed, matched = making.block().new_label(), making.block().new_label()
    found = {}
    making.later([
        ("term", body, False), ("emit", (("set", slot),)), ("pattern", head, slot, failed, found, {}),
        ("match", failed, matched), ("bind", found, bound)])


def _match(making, failed, matched):
    """Raise Match where a pattern has failed, if it can; the other way goes round this."""
    if failed in making.block().targets:
        making.emit(("jump", matched))
        making.block().put_label(failed)
        making.emit_all(MATCH)
    making.block().put_label(matched)


def _bind(making, found, bound):
    """Bind keys to slots of the innermost block."""
    level = len(making.levels) - 1
    for key, slot in found.items():
        making.bindings.bind(key, (level, "slot", slot))
        bound.append(key)


def _unbind(making, bound):
    for key in bound:
        making.bindings.unbind(key)


def _group(making, functions, bound):
    """A group of functions, which hold their own values and behind them all functions."""
    level = len(making.levels)
    for place, (key, _) in enumerate(functions):
        making.bindings.bind(key, (level, "sibling", place))
    made = []
    inside = [("member", functions, rows, made) for _, rows in functions]
    making.later([*inside, ("group", functions, made, bound)])


def _member(making, functions, rows, made):
    making.begin_block()
    making.later([("rows", rows, 0, None, None), ("end member", functions, made)])


def _end_member(making, functions, made):
    made.append(making.end_block(len(functions)))


def _end_group(making, functions, made, bound):
    _unbind(making, [key for key, _ in functions])
    for _, held in made:
        for binding in held:
            making.push_binding(binding)
    making.emit(("group", tuple([(number, len(held)) for number, held in made])))
    slots = {key: making.block().new_slot() for key, _ in functions}
    for key in list(slots)[::-1]:
        making.emit(("set", slots[key]))
    _bind(making, slots, bound)


def _case(making, core, tail):
    slot = making.block().new_slot()
    behind = None if tail else making.block().new_label()
    making.later([
        ("term", core[1], False), ("emit", (("set", slot),)), ("rows", core[2], slot, None, behind),
        *_label_if(behind)])


def _rows(making, rows, slot, packet, label):
    """Rows for the value of a slot, which go on at a label, or are in tail place if there is none.

    If none is met, `Match` is raised, or what a slot has.
    """
    failed = MATCH if packet is None else (("slot", packet), ("raise",))
    making.later([*[("row", row, slot, label) for row in rows], ("emit", failed)])


def _row(making, row, slot, label):
    head, guard, body = row
    other = making.block().new_label()
    found, bound = {}, []
    guarded = () if guard is None else (("term", guard, False), ("emit", (("unless", other),)))
    behind = () if label is None else (("emit", (("jump", label),)),)
    making.later([
        ("pattern", head, slot, other, found, {}), ("bind", found, bound), *guarded,
        ("term", body, label is None), *behind, ("unbind", bound), ("label", other)])


def _handle(making, core, tail):
    slot, begun = making.block().new_slot(), making.block().new_label()
    behind = None if tail else making.block().new_label()
    making.later([
        ("emit", (("handle", begun),)), ("term", core[1], False),
        ("emit", (("unhandle",), ("return",) if tail else ("jump", behind))), ("label", begun),
        ("emit", (("set", slot),)), ("rows", core[2], slot, slot, behind), *_label_if(behind)])


def _label_if(label):
    """What is to be done to put a label, if there is one."""
    return () if label is None else (("label", label),)


def _if(making, core, tail):
    other = making.block().new_label()
    if tail:
        making.later([
            ("term", core[1], False), ("emit", (("unless", other),)), ("term", core[2], True), ("label", other),
            ("term", core[3], True)])
        return
    behind = making.block().new_label()
    making.later([
        ("term", core[1], False), ("emit", (("unless", other),)), ("term", core[2], False),
        ("emit", (("jump", behind),)), ("label", other), ("term", core[3], False), ("label", behind)])


def _logic(making, core, tail):
    """Both or either, as the choice that it is."""
    if core[0] == "both":
        _if(making, ("if", core[1], core[2], ("con", "False", None)), tail)
    else:
        _if(making, ("if", core[1], ("con", "True", None), core[2]), tail)


def _then(making, core, tail):
    making.later([("term", core[1], False), ("emit", (("drop",),)), ("term", core[2], tail)])


def _while(making, core, tail):
    start, behind = making.block().new_label(), making.block().new_label()
    making.later([
        ("label", start), ("term", core[1], False), ("emit", (("unless", behind),)), ("term", core[2], False),
        ("emit", (("drop",), ("jump", start))), ("label", behind), ("emit", (("tuple", 0),)), ("end", tail)])


def _pattern(making, *rest):
    add_pattern(making, *rest)


def _part(making, *rest):
    add_part(making, *rest)


def _emit(making, instructions):
    making.emit_all(instructions)


def _label(making, label):
    making.block().put_label(label)


TERMS = {
    "int": _literal, "string": _literal, "name": _name, "tuple": _tuple, "con": _con, "table": _table, "field": _field,
    "exception": _literal, "reserved": _literal, "packet": _packet, "fn": _fn, "call": _call, "let": _let,
    "case": _case, "if": _if, "raise": _raise, "handle": _handle, "then": _then, "while": _while, "both": _logic,
    "either": _logic, "op": _op,
}


def _term(making, core, tail):
    """A term, whose value is pushed, or in tail place returned."""
    step = TERMS[core[0]]
    step(making, core, tail)


ACTIONS = {
    "term": _term, "emit": _emit, "end": _end, "label": _label, "function": _function, "closure": _closure,
    "pair": _pair, "match": _match, "bind": _bind, "unbind": _unbind, "member": _member, "end member": _end_member,
    "group": _end_group, "rows": _rows, "row": _row, "pattern": _pattern, "part": _part,
}


def code_of(core, uses):
    """Code of a term, with units that are all that it names, for what has been looked at already."""
    return Code(Making().make(core), uses)


def compiled(core, *, uses=()):
    """Code of a term, with some units that it can name."""
    units = free_units(core)
    if not are_units(uses) or not all([name in uses for name in units]):
        raise InvalidOperation("the units are an ascending tuple of names, with all those of the term")
    return code_of(core, uses)
