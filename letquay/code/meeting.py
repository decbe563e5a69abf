"""Code that looks whether the value of a slot meets a pattern, and keeps what it binds in slots.

One row can have many exceptions with long paths, and is tried in one step of the rules. So ways on which several of
them go on together are gone once for the row.
"""

from letquay.code.core import keys_of
from letquay.code.tables import paths_in, shared_ways


def add_match(making, pattern, slot, failed, found):
    """Go on at a label unless the value of a slot meets the pattern of a row; the slots of keys come into a dict."""
    places = [making.bindings.place_at(path) for path in paths_in(pattern)]
    making.ways = {}
    for root, keys in shared_ways(places):
        making.push_exception(root, keys)
        shared = making.block().new_slot()
        making.emit(("set", shared))
        making.ways[(root, keys)] = shared
    making.later([("pattern", pattern, slot, failed, found, {})])


def add_pattern(making, pattern, slot, failed, found, fixed):
    """Go on at a label unless the value of a slot meets a pattern; the slots of keys come into a dict.

    Where both parts of an `or` bind keys, their slots are `fixed`.
    """
    word = pattern[0]
    if word in ("name", "as"):
        _bind_slot(making, pattern[1], slot, found, fixed)
    if word in ("int", "string"):
        making.emit_all([("slot", slot), ("differs", word, pattern[1], failed)])
    elif word == "as":
        making.later([("pattern", pattern[2], slot, failed, found, fixed)])
    elif word == "tuple":
        parts = [(k, part) for k, part in enumerate(pattern[1]) if part[0] != "any"]
        making.later([("part", ("part", k), part, slot, failed, found, fixed) for k, part in parts])
    elif word == "or":
        _alternatives(making, pattern, slot, failed, found, fixed)
    elif word == "con":
        making.emit_all([("slot", slot), ("differs", "con", pattern[1], failed)])
        _carried(making, pattern[2], slot, failed, found, fixed)
    elif word == "packet":
        making.emit(("slot", slot))
        _exception(making, pattern[1])
        making.emit(("strange", failed))
        _carried(making, pattern[2], slot, failed, found, fixed)


def _bind_slot(making, key, slot, found, fixed):
    if key in fixed:
        making.emit_all([("slot", slot), ("set", fixed[key])])
    else:
        found[key] = slot


def _alternatives(making, pattern, slot, failed, found, fixed):
    inside = dict(fixed)
    for key in keys_of(pattern):
        if key not in fixed:
            inside[key] = found[key] = making.block().new_slot()
    other, matched = making.block().new_label(), making.block().new_label()
    making.later([
        ("pattern", pattern[1], slot, other, found, inside), ("emit", (("jump", matched),)), ("label", other),
        ("pattern", pattern[2], slot, failed, found, inside), ("label", matched)])


def _carried(making, pattern, slot, failed, found, fixed):
    if pattern is not None and pattern[0] != "any":
        making.later([("part", ("carried",), pattern, slot, failed, found, fixed)])


def add_part(making, instruction, pattern, slot, failed, found, fixed):
    """Go on at a label unless a part of the value of a slot meets a pattern."""
    inner = making.block().new_slot()
    making.emit_all([("slot", slot), instruction, ("set", inner)])
    making.later([("pattern", pattern, inner, failed, found, fixed)])


def _exception(making, core):
    """Push the exception that a name, or fields of a name, or a reserved name tells."""
    if core[0] == "reserved":
        making.emit(core)
    else:
        root, keys, _ = making.bindings.place_at(core)
        making.push_exception(root, keys)
