"""Desks: units that are kept and compiled anew only if they must be, and claims about them."""

from letquay.checks import is_whole
from letquay.desk.judging import (
    TYPED, Keeping, holds, is_claim, kept_with, news_between, units_of_claim,
)
from letquay.errors import (
    InvalidNumber, InvalidOperation, InvalidUnit, NothingToUndo, Refused, TooMany, UnknownName,
)
from letquay.machine.runs import Machine, check_most
from letquay.rules.runs import check_inputs
from letquay.units.links import linked
from letquay.units.units import Unit

MAX_UNITS = 8
MAX_CLAIMS = 8


class Desk:
    """Up to eight units. All that was is kept, so that changes can be taken back and done again."""

    def __init__(self):
        # What is kept behind 0, 1, .. changes; what was taken back, the next one to be done again last; and what the
        # last change compiled anew.
        self._state = ((Keeping({}, {}, {}, ()),), (), ())

    def _now(self):
        return self._state[0][-1]

    def _check_name(self, name):
        if name not in list(self._now().by_name):
            raise UnknownName(name)

    def _change(self, after, made):
        """Let a change have been done; the news."""
        past = self._state[0]
        self._state = ((*past, after), (), made)
        return news_between(past[-1], after)

    def _change_units(self, units):
        after, made = kept_with(self._now(), units)
        return self._change(after, made)

    @property
    def names(self):
        """The ascending tuple of the names of the units."""
        return tuple(self._state[0][-1].by_name)

    @property
    def verdicts(self):
        """The verdicts of the units, by names."""
        return dict(self._state[0][-1].told)

    @property
    def claims(self):
        """The claims in the order in which they were demanded."""
        return tuple([claim for claim, _ in self._state[0][-1].demanded])

    @property
    def made(self):
        """The ascending tuple of the units that the last change compiled anew."""
        return self._state[2]

    def part(self, name):
        """What was compiled of a unit that is typed."""
        self._check_name(name)
        if self._now().told[name] != TYPED:
            raise InvalidOperation("the unit is not typed")
        return self._now().parts[name]

    def users(self, name):
        """The ascending tuple of the units that use one."""
        self._check_name(name)
        return tuple([other for other, unit in self._now().by_name.items() if name in unit.uses])

    def put(self, unit):
        """Add a unit, or replace the one with its name; the news."""
        if not isinstance(unit, Unit):
            raise InvalidUnit("this is no unit")
        units = {**self._now().by_name, unit.name: unit}
        if len(units) > MAX_UNITS:
            raise TooMany(MAX_UNITS)
        return self._change_units(units)

    def take(self, name):
        """Take a unit away; the news."""
        self._check_name(name)
        units = self._now().by_name
        return self._change_units({other: units[other] for other in units if other != name})

    def revise(self, name, change):
        """Put what a change makes of a unit; the news."""
        self._check_name(name)
        unit = change(self._now().by_name[name])
        if not isinstance(unit, Unit):
            raise InvalidUnit("this is no unit")
        if unit.name != name:
            raise InvalidOperation("the unit has another name")
        return self.put(unit)

    def _is_demanded(self, claim):
        return claim in [other for other, _ in self._now().demanded]

    def demand(self, claim):
        """Let a claim hold behind each change from now on."""
        if not is_claim(claim) or self._is_demanded(claim):
            raise InvalidOperation("this is no claim, or it is demanded already")
        for name in units_of_claim(claim):
            self._check_name(name)
        now = self._now()
        if len(now.demanded) == MAX_CLAIMS:
            raise TooMany(MAX_CLAIMS)
        kept = now.parts[claim[1]].face if claim[0] == "keeps" and now.told[claim[1]] == TYPED else None
        if not holds(now, claim, kept):
            raise Refused(claim)
        return self._change(now.with_claims((*now.demanded, (claim, kept))), ())

    def waive(self, claim):
        """Demand a claim no more."""
        if not is_claim(claim) or not self._is_demanded(claim):
            raise InvalidOperation("this is no claim that is demanded")
        now = self._now()
        return self._change(now.with_claims(tuple([pair for pair in now.demanded if pair[0] != claim])), ())

    def machine_for(self, inputs, most):
        """The machine that has run all units, linked, for at most so many steps."""
        check_inputs(inputs)
        check_most(most)
        now = self._now()
        if len(now.told) == 0 or not all([verdict == TYPED for verdict in list(now.told.values())]):
            raise InvalidOperation("there is no unit, or one is not typed")
        machine = Machine(linked(tuple([now.parts[name] for name in now.by_name])), inputs)
        machine.go_on(most=most)
        return machine

    def outcome(self, inputs=(), *, most=100000):
        """The ends of the machine for all units, linked, behind at most so many steps."""
        ends = self.machine_for(inputs, most).ends
        return ("long",) if ends is None else ends

    def undo(self, *, many=1):
        """Take the last changes back; the news."""
        if not is_whole(many):
            raise InvalidNumber(many)
        past, undone, _ = self._state
        if many >= len(past):
            raise NothingToUndo(many)
        left = len(past) - many
        self._state = (past[:left], (*undone, *past[left:][::-1]), ())
        return news_between(past[-1], past[left - 1])

    def redo(self, *, many=1):
        """Do the changes again that were taken back last; the news."""
        if not is_whole(many):
            raise InvalidNumber(many)
        past, undone, _ = self._state
        if many > len(undone):
            raise NothingToUndo(many)
        left = len(undone) - many
        self._state = ((*past, *undone[left:][::-1]), undone[:left], ())
        return news_between(past[-1], self._now())

    def during(self, call):
        """What a call with the desk returns; then all is as before."""
        held = self._state
        try:
            return call(self)
        finally:
            self._state = held

    def twin(self):
        """An equal desk with the same past that goes on by itself."""
        desk = Desk()
        desk._state = self._state
        return desk

    def __getitem__(self, name):
        if not isinstance(name, str) or name not in self._state[0][-1].by_name:
            raise UnknownName(name)
        return self._state[0][-1].by_name[name]

    def __contains__(self, value):
        return isinstance(value, str) and value in self._state[0][-1].by_name

    def __iter__(self):
        raise TypeError("a desk is not iterated over")

    def __eq__(self, other):
        if not isinstance(other, Desk):
            return False
        one, two = self._state[0][-1], other._state[0][-1]
        return one.by_name == two.by_name and one.demanded == two.demanded

    def __len__(self):
        return len(self._state[0][-1].by_name)

    def __str__(self):
        now = self._state[0][-1]
        return f"desk of {len(now.by_name)} units, {len(now.demanded)} claims"
