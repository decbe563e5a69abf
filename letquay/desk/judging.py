"""What a desk keeps: units, what was compiled of them, their verdicts, and the claims that must hold."""

from letquay.errors import Refused, TooMany
from letquay.text.names import is_high, is_low
from letquay.units.links import is_anew, is_in_ring
from letquay.units.units import compiled_unit

TYPED = ("typed",)
CLAIMS = {"typed": 2, "uses": 3, "has": 3, "keeps": 2}


class Keeping:
    """Units and what was compiled of them last, by names, their verdicts, and pairs (claim, kept face or `None`).

    It never changes.
    """

    def __init__(self, units, parts, verdicts, claims):
        self.by_name = units
        self.parts = parts
        self.told = verdicts
        self.demanded = claims

    def with_claims(self, claims):
        """The same with other claims."""
        return Keeping(self.by_name, self.parts, self.told, claims)


def is_claim(value):
    """Whether any value has the form of a claim."""
    if not isinstance(value, tuple) or len(value) < 2 or not isinstance(value[0], str):
        return False
    if CLAIMS.get(value[0]) != len(value) or not is_high(value[1]):
        return False
    if value[0] == "uses":
        return is_high(value[2])
    return value[0] != "has" or is_low(value[2])


def units_of_claim(claim):
    """The units that a claim names."""
    return claim[1:] if claim[0] == "uses" else claim[1:2]


def holds(keeping, claim, kept):
    """Whether a claim holds, with the face that was kept for it."""
    name = claim[1]
    if keeping.told.get(name) != TYPED:
        return False
    if claim[0] == "uses":
        return claim[2] in keeping.by_name[name].uses
    if claim[0] == "has":
        return claim[2] in keeping.parts[name].face.face.schemes
    return claim[0] != "keeps" or keeping.parts[name].face == kept


class Judging:
    """The verdicts of units, one after the other, and what is compiled for them."""

    def __init__(self, units, parts):
        self.by_name = units
        self.parts = {name: parts[name] for name in parts if name in units}
        self.told = {}
        self.compiled_anew = []

    def run(self):
        """Tell the verdicts of all units."""
        uses = {name: unit.uses for name, unit in self.by_name.items()}
        left = []
        for name in sorted(uses):
            lacking = [used for used in uses[name] if used not in uses]
            if lacking:
                self.told[name] = ("lacks", lacking[0])
            elif is_in_ring(uses, name):
                self.told[name] = ("ring",)
            else:
                left.append(name)
        while left:
            ready = [name for name in left if all([used in self.told for used in uses[name]])]
            left.remove(ready[0])
            self.told[ready[0]] = self._verdict(self.by_name[ready[0]])

    def _verdict(self, unit):
        """The verdict of a unit that uses others whose verdicts are told; it is compiled if it must be."""
        for name in unit.uses:
            if self.told[name] != TYPED:
                return ("waits", name)
        faces = {name: self.parts[name].face for name in unit.uses}
        if not is_anew(unit, self.parts.get(unit.name), faces):
            return TYPED
        try:
            self.parts[unit.name] = compiled_unit(unit, faces)
        except Refused as refused:
            return ("refused", refused.reason[0])
        except TooMany:
            return ("refused", "many")
        self.compiled_anew.append(unit.name)
        return TYPED


def kept_with(keeping, units):
    """The pair of what is kept with other units, and of the ascending tuple of those that were compiled anew."""
    judging = Judging(units, keeping.parts)
    judging.run()
    verdicts = {name: judging.told[name] for name in sorted(judging.told)}
    found = Keeping({name: units[name] for name in sorted(units)}, judging.parts, verdicts, keeping.demanded)
    for claim, kept in keeping.demanded:
        if not holds(found, claim, kept):
            raise Refused(claim)
    return found, tuple(sorted(judging.compiled_anew))


def news_between(before, after):
    """The pairs (name, verdict) of the units whose verdict is another one; `None` if the unit is gone."""
    names = sorted({**before.told, **after.told})
    return tuple([
        (name, after.told.get(name)) for name in names if before.told.get(name) != after.told.get(name)])
