"""Compiling: sound code for core terms.

What is still to be made is a list of tuples (action, ..), the next one last, so that no term is too deep. Values that
are matched are kept in slots; what a pattern finds out leaves nothing among the operands. Each function is a block of
its own; what it names of the blocks around it, it holds. Keys that an `open` names like fields are looked up where they
stand. A term is "exact" unless its tables can be loose.
"""

from letquay.code.blocks import Code, are_units
from letquay.code.building import Making
from letquay.code.core import free_units
from letquay.code.loose import add_exact, add_loose, add_part_known, add_table_known
from letquay.code.meeting import add_match, add_part, add_pattern
from letquay.code.tables import opened_by, parameter_of
from letquay.errors import InvalidOperation

MATCH = (("reserved", "Match"), ("packet", False), ("raise",))
# How many fields are looked up for a key that an `open` names.
MOST_FIELDS = 100


def _end(making, tail):
    """End a term, whose value has been pushed."""
    if tail:
        making.emit(("return",))


def _literal(making, core, tail):
    making.emit(core)
    _end(making, tail)


def _name(making, core, tail):
    known = making.push_name(core[1])
    if known is None:
        _end(making, tail)
    else:
        making.later([("exact", [known], 0), ("end", tail)])


def _members(making, terms, instruction, tail):
    """Terms one behind the other, and an instruction that takes all their values."""
    making.later([*[("term", term, False) for term in terms], ("emit", (instruction,)), ("end", tail)])


def _tuple(making, core, tail):
    _members(making, core[1], ("tuple", len(core[1])), tail)


def _con(making, core, tail):
    carried = () if core[2] is None else (core[2],)
    _members(making, carried, ("con", core[1], core[2] is not None), tail)


def _table(making, core, tail):
    _members(making, [field[1] for field in core[1]], ("table", tuple([field[0] for field in core[1]])), tail)


def _field(making, core, tail):
    known = []
    making.later([("loose", core, False, known), ("exact", known, 0), ("end", tail)])


def _packet(making, core, tail):
    parts = (core[1],) if core[2] is None else core[1:]
    _members(making, parts, ("packet", core[2] is not None), tail)


def _op(making, core, tail):
    _members(making, core[2], ("op", core[1]), tail)


def _raise(making, core, tail):
    making.later([("term", core[1], False), ("emit", (("raise",),))])


def _call(making, core, tail):
    if making.is_applied(core):
        known = []
        making.later([("loose", core, tail, known), ("returned", known) if tail else ("exact", known, 0)])
        return
    call = ("tail",) if tail else ("call",)
    making.later([("term", core[1], False), ("term", core[2], False), ("emit", (call,))])


def _returned(making, known):
    """What a tail leaves to another block cannot be cut any more."""
    if known[0] is not None:
        making.room = -1


def _fn(making, core, tail):
    making.later([("function", core[1]), ("closure", tail)])


def _function(making, rows):
    """The block of a function with some rows, which is the innermost one until it is ended."""
    making.begin_block()
    making.later([("rows", rows, 0, None, None)])


def _closure(making, tail):
    number, held = making.end_block(0)
    for root in held:
        making.push_root(root)
    making.emit(("closure", number, len(held)))
    _end(making, tail)


def _let(making, core, tail):
    pick = making.pick_in(core)
    if pick is not None:
        making.later([("loose", pick[0], False, []), ("exact", [pick[1]], 0), ("end", tail)])
        return
    _, pairs, last = core
    # What is handed on as a whole is cut where it is bound, once.
    whole = {field[1][1]: True for field in last[1] if field[1][0] == "name"} if last[0] == "table" else {}
    bound = []
    making.later([*[("pair", pair, whole, bound) for pair in pairs], ("term", last, tail), ("unbind", bound)])


def _pair(making, pair, whole, bound):
    head, body = pair
    if head is None:
        _group(making, body, bound)
    elif not _open(making, opened_by(pair), bound) and not _functor(making, head, parameter_of(pair), bound):
        if head[0] == "name":
            known = [None] if head[1] in whole else []
            term = ("term", body, False) if known else ("loose", body, False, known)
            making.later([term, ("bind value", head[1], known, bound)])
        else:
            _matched(making, head, body, bound)


def _matched(making, head, body, bound):
    """A pair whose pattern is looked at."""
    slot = making.block().new_slot()
    failed, matched = making.block().new_label(), making.block().new_label()
    found = {}
    making.later([
        ("term", body, False), ("emit", (("set", slot),)), ("row pattern", head, slot, failed, found),
        ("match", failed, matched), ("bind", found, bound)])


def _bind_value(making, key, known, bound):
    """Bind a key to the value on top, of which is known what stands in a list."""
    slot = making.block().new_slot()
    making.emit(("set", slot))
    making.bind_slot(key, slot, known[0])
    bound.append(key)


def _open(making, opened, bound):
    """Bind keys to fields of a path, if that is what a pair does; whether it is."""
    if opened is None:
        return False
    path, keys = opened
    if len(making.bindings.place_at(path)[1]) >= MOST_FIELDS:
        return False
    places = [(key, making.bindings.place_at(("field", path, key))) for key in keys]
    for key, place in places:
        making.bindings.bind(key, place)
        bound.append(key)
    return True


def _functor(making, head, parameter, bound):
    """The function of a functor that is nothing but applied, if that is what a pair binds; whether it is."""
    if parameter is None or not making.is_functor(head[1]):
        return False
    key, body = parameter
    result = []
    making.begin_block()
    making.bind_slot(key, 0, making.of_functors[head[1]])
    making.later([
        ("loose", body, True, result), ("unbind", [key]), ("closure", False), ("bind value", head[1], [None], bound),
        ("result", head[1], result)])
    return True


def _result(making, key, result):
    making.results[key] = result[0]


def _match(making, failed, matched):
    """Raise Match where a pattern has failed, if it can; the other way goes round this."""
    if failed in making.block().targets:
        making.emit(("jump", matched))
        making.block().put_label(failed)
        making.emit_all(MATCH)
    making.block().put_label(matched)


def _bind(making, found, bound):
    """Bind keys to slots of the innermost block."""
    for key, slot in found.items():
        making.bind_slot(key, slot, None)
        bound.append(key)


def _unbind(making, bound):
    for key in bound:
        making.bindings.unbind(key)


def _group(making, functions, bound):
    """A group of functions, which hold their own values and behind them all functions."""
    level = len(making.levels)
    for place, (key, _) in enumerate(functions):
        making.bindings.bind(key, ((level, "sibling", place), (), None))
    made = []
    inside = [("member", functions, rows, made) for _, rows in functions]
    making.later([*inside, ("group", functions, made, bound)])


def _member(making, functions, rows, made):
    making.begin_block()
    making.later([("rows", rows, 0, None, None), ("end member", functions, made)])


def _end_member(making, functions, made):
    made.append(making.end_block(len(functions)))


def _end_group(making, functions, made, bound):
    _unbind(making, [key for key, _ in functions])
    for _, held in made:
        for root in held:
            making.push_root(root)
    making.emit(("group", tuple([(number, len(held)) for number, held in made])))
    slots = {key: making.block().new_slot() for key, _ in functions}
    for key in list(slots)[::-1]:
        making.emit(("set", slots[key]))
    _bind(making, slots, bound)


def _case(making, core, tail):
    slot = making.block().new_slot()
    behind = None if tail else making.block().new_label()
    making.later([
        ("term", core[1], False), ("emit", (("set", slot),)), ("rows", core[2], slot, None, behind),
        *_label_if(behind)])


def _rows(making, rows, slot, packet, label):
    """Rows for the value of a slot, which go on at a label, or are in tail place if there is none.

    If none is met, `Match` is raised, or what a slot has.
    """
    failed = MATCH if packet is None else (("slot", packet), ("raise",))
    making.later([*[("row", row, slot, label) for row in rows], ("emit", failed)])


def _row(making, row, slot, label):
    head, guard, body = row
    other = making.block().new_label()
    found, bound = {}, []
    guarded = () if guard is None else (("term", guard, False), ("emit", (("unless", other),)))
    behind = () if label is None else (("emit", (("jump", label),)),)
    making.later([
        ("row pattern", head, slot, other, found), ("bind", found, bound), *guarded,
        ("term", body, label is None), *behind, ("unbind", bound), ("label", other)])


def _handle(making, core, tail):
    slot, begun = making.block().new_slot(), making.block().new_label()
    behind = None if tail else making.block().new_label()
    making.later([
        ("emit", (("handle", begun),)), ("term", core[1], False),
        ("emit", (("unhandle",), ("return",) if tail else ("jump", behind))), ("label", begun),
        ("emit", (("set", slot),)), ("rows", core[2], slot, slot, behind), *_label_if(behind)])


def _label_if(label):
    """What is to be done to put a label, if there is one."""
    return () if label is None else (("label", label),)


def _if(making, core, tail):
    other = making.block().new_label()
    if tail:
        making.later([
            ("term", core[1], False), ("emit", (("unless", other),)), ("term", core[2], True), ("label", other),
            ("term", core[3], True)])
        return
    behind = making.block().new_label()
    making.later([
        ("term", core[1], False), ("emit", (("unless", other),)), ("term", core[2], False),
        ("emit", (("jump", behind),)), ("label", other), ("term", core[3], False), ("label", behind)])


def _logic(making, core, tail):
    """Both or either, as the choice that it is."""
    if core[0] == "both":
        _if(making, ("if", core[1], core[2], ("con", "False", None)), tail)
    else:
        _if(making, ("if", core[1], ("con", "True", None), core[2]), tail)


def _then(making, core, tail):
    making.later([("term", core[1], False), ("emit", (("drop",),)), ("term", core[2], tail)])


def _while(making, core, tail):
    start, behind = making.block().new_label(), making.block().new_label()
    making.later([
        ("label", start), ("term", core[1], False), ("emit", (("unless", behind),)), ("term", core[2], False),
        ("emit", (("drop",), ("jump", start))), ("label", behind), ("emit", (("tuple", 0),)), ("end", tail)])


def _row_pattern(making, *rest):
    add_match(making, *rest)


def _pattern(making, *rest):
    add_pattern(making, *rest)


def _part(making, *rest):
    add_part(making, *rest)


def _loose(making, *rest):
    add_loose(making, *rest)


def _exact(making, *rest):
    add_exact(making, *rest)


def _part_known(making, *rest):
    add_part_known(*rest)


def _table_known(making, *rest):
    add_table_known(*rest)


def _emit(making, instructions):
    making.emit_all(instructions)


def _label(making, label):
    making.block().put_label(label)


TERMS = {
    "int": _literal, "string": _literal, "name": _name, "tuple": _tuple, "con": _con, "table": _table, "field": _field,
    "exception": _literal, "reserved": _literal, "packet": _packet, "fn": _fn, "call": _call, "let": _let,
    "case": _case, "if": _if, "raise": _raise, "handle": _handle, "then": _then, "while": _while, "both": _logic,
    "either": _logic, "op": _op,
}


def _term(making, core, tail):
    """A term, whose value is pushed, or in tail place returned."""
    step = TERMS[core[0]]
    step(making, core, tail)


ACTIONS = {
    "term": _term, "emit": _emit, "end": _end, "label": _label, "function": _function, "closure": _closure,
    "pair": _pair, "match": _match, "bind": _bind, "unbind": _unbind, "member": _member, "end member": _end_member,
    "group": _end_group, "rows": _rows, "row": _row, "pattern": _pattern, "part": _part, "bind value": _bind_value,
    "result": _result, "returned": _returned, "loose": _loose, "exact": _exact, "part known": _part_known,
    "table known": _table_known, "row pattern": _row_pattern,
}


def _blocks_of(core, lets_loose):
    """The blocks of a term, or `None` if loose tables are let and cannot be."""
    making = Making(core, lets_loose)
    making.later([("term", core, True)])
    while making.todo and making.room >= 0:
        word, *rest = making.todo.pop()
        action = ACTIONS[word]
        action(making, *rest)
    if making.room < 0:
        return None
    making.end_block(0)
    return tuple(making.blocks)


def code_of(core, uses):
    """Code of a term, with units that are all that it names, for what has been looked at already."""
    blocks = _blocks_of(core, True)
    return Code(_blocks_of(core, False) if blocks is None else blocks, uses)


def compiled(core, *, uses=()):
    """Code of a term, with some units that it can name."""
    units = free_units(core)
    if not are_units(uses) or not all([name in uses for name in units]):
        raise InvalidOperation("the units are an ascending tuple of names, with all those of the term")
    return code_of(core, uses)
