"""Links: the order of units, the whole of them, what must be compiled anew, and linking."""

from letquay.errors import InvalidOperation, InvalidUnit, Refused
from letquay.text.trees import is_unit
from letquay.units.units import MAX_UNITS, Compiled, Unit, compiled_unit


def _check_units(units):
    """Raise an error unless it is a tuple of one to eight units."""
    if not isinstance(units, tuple) or not 1 <= len(units) <= MAX_UNITS:
        raise InvalidOperation("units are a tuple of one to eight")
    if not all([isinstance(unit, Unit) for unit in units]):
        raise InvalidOperation("units are a tuple of units")


def _check_parts(parts, least):
    """Raise an error unless it is a tuple of compiled units, at least so many."""
    if not isinstance(parts, tuple) or not least <= len(parts) <= MAX_UNITS:
        raise InvalidOperation("parts are a tuple of at most eight compiled units")
    if not all([isinstance(part, Compiled) for part in parts]):
        raise InvalidOperation("parts are a tuple of compiled units")


def is_in_ring(uses, name):
    """Whether a unit uses itself through others; `uses` has the names that units use."""
    seen = {}
    todo = list(uses[name])
    while todo:
        other = todo.pop()
        if other == name:
            return True
        if other not in seen:
            seen[other] = True
            todo.extend(uses.get(other, ()))
    return False


def _uses_of(units):
    """The names that units use, those of the same name together."""
    uses = {}
    for unit in units:
        uses[unit.name] = (*uses.get(unit.name, ()), *unit.uses)
    return uses


def _first_with(parts, name):
    """The first of compiled units with a name."""
    return [part for part in parts if part.unit.name == name][0]


def _reason_against(units, k, uses, parts):
    """The first reason why the unit k cannot be linked, or None; `parts` are the units compiled, if they are."""
    unit = units[k]
    if unit.name in [ahead.name for ahead in units[:k]]:
        return ("twice", unit.name)
    for name in unit.uses:
        if name not in uses:
            return ("lacks", unit.name, name)
    if is_in_ring(uses, unit.name):
        return ("ring", unit.name)
    if parts:
        faces = parts[k].faces
        for name in unit.uses:
            if _first_with(parts, name).face != faces[name]:
                return ("stale", unit.name, name)
    return None


def _check_links(units, parts):
    uses = _uses_of(units)
    for k in range(len(units)):
        reason = _reason_against(units, k, uses, parts)
        if reason is not None:
            raise Refused(reason)


def sorted_units(units):
    """The list of units that can be linked, in the order."""
    left = {unit.name: unit for unit in units}
    found = []
    done = {}
    while left:
        ready = [name for name in sorted(left) if all([used in done for used in left[name].uses])]
        done[ready[0]] = True
        found.append(left.pop(ready[0]))
    return found


def _ordered(units):
    _check_units(units)
    _check_links(units, ())
    return sorted_units(units)


def order_of(units):
    """The names of units in the order."""
    return tuple([unit.name for unit in _ordered(units)])


def whole(units):
    """The declarations of the whole of units."""
    found = []
    ordered = _ordered(units)
    if any([tree[0] in ("signature", "functor") for unit in units for tree in unit.declarations]):
        raise InvalidOperation("a unit of a whole declares no signature and no functor")
    for unit in ordered:
        body = ("struct", unit.declarations)
        if unit.signature is not None:
            body = ("seal", body, unit.signature)
        found.append(("structure", unit.name, body))
    if not is_unit(tuple(found)):
        raise InvalidUnit("the whole is greater or deeper than units are")
    return tuple(found)


def is_anew(unit, part, faces):
    """Whether a unit must be compiled anew, with these faces of its uses, where a part was compiled, or `None`."""
    if part is None or part.unit != unit:
        return True
    old = part.faces
    return any([old[name] != faces[name] for name in unit.uses])


def _compiled_in_order(parts, units):
    """The list of the units compiled, in the order, where parts are kept that need not be compiled anew."""
    kept = {part.unit.name: part for part in parts}
    done = {}
    for unit in units:
        faces = {name: done[name].face for name in unit.uses}
        part = kept.get(unit.name)
        if is_anew(unit, part, faces):
            try:
                part = compiled_unit(unit, faces)
            except Refused as refused:
                raise Refused((unit.name, refused.reason)) from None
        done[unit.name] = part
    return list(done.values())


def compiled_all(units):
    """The units compiled, in the order."""
    return tuple(_compiled_in_order((), _ordered(units)))


def linked(parts):
    """The pairs (name, code) of compiled units, in the order, as the machine takes them."""
    _check_parts(parts, 1)
    units = [part.unit for part in parts]
    _check_links(units, parts)
    codes = {part.unit.name: part.code for part in parts}
    return tuple([(unit.name, codes[unit.name]) for unit in sorted_units(units)])


def _updated(parts, units):
    """The units compiled, in the order."""
    _check_parts(parts, 0)
    names = [part.unit.name for part in parts]
    if len(set(names)) < len(names):
        raise InvalidOperation("two parts have one name")
    return _compiled_in_order(parts, _ordered(units))


def anew(parts, units):
    """The ascending tuple of the names of the units that must be compiled anew."""
    found = _updated(parts, units)
    kept = {part.unit.name: part for part in parts}
    return tuple(sorted([
        part.unit.name for part in found if is_anew(part.unit, kept.get(part.unit.name), part.faces)]))


def updated(parts, units):
    """The units compiled, in the order, where all that need not be compiled anew are those of the parts."""
    return tuple(_updated(parts, units))
