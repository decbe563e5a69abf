"""Code of terms whose tables can have more fields, and code that cuts a table to its own keys.

What is known of a table comes into a list, as it is known at last when the code of a term has been made.
"""

from letquay.code.tables import Loose, at_key


def add_loose(making, core, tail, found):
    """Push the value of a term, which can be a loose table; what is known of it comes into a list."""
    word = core[0]
    if word == "name":
        found.append(making.push_name(core[1]))
        making.later([("end", tail)])
    elif word == "field":
        inner = []
        making.later([
            ("loose", core[1], False, inner), ("emit", (("field", core[2]),)), ("part known", core[2], inner, found),
            ("end", tail)])
    elif word == "let":
        _loose_let(making, core, tail, found)
    elif word == "table":
        _loose_table(making, core, tail, found)
    elif word == "call" and making.is_applied(core):
        _application(making, core, tail, found)
    else:
        found.append(None)
        making.later([("term", core, tail)])


def add_part_known(key, inner, found):
    """Tell what is known of a field of a table of which something is known."""
    found.append(at_key(inner[0], key))


def _loose_let(making, core, tail, found):
    pick = making.pick_in(core)
    if pick is None:
        bound = []
        pairs = [("pair", pair, {}, bound) for pair in core[1]]
        making.later([*pairs, ("loose", core[2], tail, found), ("unbind", bound)])
    else:
        found.append(pick[1])
        making.later([("loose", pick[0], False, []), ("end", tail)])


def _loose_table(making, core, tail, found):
    """A table whose structures can be loose."""
    inside = {}
    actions = []
    for key, worth in core[1]:
        if key[0] == "structure":
            inside[key] = []
            actions.append(("loose", worth, False, inside[key]))
        else:
            actions.append(("term", worth, False))
    keys = tuple([key for key, _ in core[1]])
    making.later([*actions, ("emit", (("table", keys),)), ("table known", keys, inside, found), ("end", tail)])


def add_table_known(keys, inside, found):
    """Tell what is known of a table with some keys, some of which have loose tables."""
    loose = {key: told[0] for key, told in inside.items() if told[0] is not None}
    found.append(Loose(keys, loose) if loose else None)


def _application(making, core, tail, found):
    """A call of a functor, whose argument needs not be cut, as it is only asked for its fields."""
    key = core[1][1]
    making.push_name(key)
    found.append(making.results[key])
    argument, _ = making.pick_in(core[2])
    making.later([("loose", argument, False, []), ("emit", (("tail",) if tail else ("call",),))])


def add_exact(making, found, depth):
    """Cut the table on top, of which is known what stands in a list, and those inside of it, to their own keys."""
    table = found[0]
    if table is None or not making.can_cut(table):
        return
    keys = table.own_keys
    built = ("emit", (("table", keys),))
    if not keys:
        making.later([("emit", (("drop",),)), built])
    elif len(keys) == 1:
        making.emit(("field", keys[0]))
        making.later([("exact", [at_key(table, keys[0])], depth), built])
    else:
        slot = making.block().helping_slot(depth)
        making.emit(("set", slot))
        making.later([*_exact_fields(table, slot, depth), built])


def _exact_fields(table, slot, depth):
    """What is to be done to push the fields of the loose table of a slot."""
    actions = []
    for key in table.own_keys:
        inner = at_key(table, key)
        if inner is not None and not inner.own_keys:
            actions.append(("emit", (("table", ()),)))
        else:
            actions.append(("emit", (("slot", slot), ("field", key))))
            actions.append(("exact", [inner], depth + 1))
    return actions
