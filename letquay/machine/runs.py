"""The machine: runs of the codes of units, instruction by instruction."""

from letquay.checks import is_integer, is_whole
from letquay.code.blocks import Code
from letquay.code.judge import is_sound
from letquay.data.looking import check_scope
from letquay.errors import InvalidCode, InvalidNumber, InvalidOperation, NothingToUndo
from letquay.machine.state import State
from letquay.machine.steps import do_step
from letquay.rules.runs import check_inputs
from letquay.rules.texts import texts_of_face
from letquay.text.names import is_high

MOST_AT_ONCE = 100000


def check_most(most):
    """Raise an error unless it is a number of steps that a machine can do at once."""
    if not is_integer(most) or not 0 <= most <= MOST_AT_ONCE:
        raise InvalidNumber(most)


def _is_pair(value):
    return isinstance(value, tuple) and len(value) == 2 and is_high(value[0]) and isinstance(value[1], Code)


def _check_codes(codes):
    """Raise an error unless they are pairs of units and sound codes, those that one uses ahead of it."""
    if not isinstance(codes, tuple) or len(codes) == 0 or not all([_is_pair(pair) for pair in codes]):
        raise InvalidCode("codes are one or more pairs of a unit and its code")
    if not all([is_sound(code) for _, code in codes]):
        raise InvalidCode("a code is not sound")
    ahead = {}
    for name, code in codes:
        if name in ahead or not all([used in ahead for used in code.uses]):
            raise InvalidOperation("units are different, and stand behind those that they use")
        ahead[name] = True


def _lacks(state, value, face):
    """Whether a value is no table with all values, exceptions and structures of a face."""
    keys = [*[("value", name) for name in face.schemes], *[("exception", name) for name in face.exceptions]]
    if any([state.field(value, key) is None for key in keys]):
        return True
    for name, inner in face.structures.items():
        table = state.field(value, ("structure", name))
        if table is None or _lacks(state, table, inner):
            return True
    return False


# Code that does nothing, by which a machine is made that then goes on as another one does.
NOTHING = ((0, 0, (("tuple", 0), ("return",))),)


class Machine:
    """A machine that runs codes. All its steps are kept, so that they can be taken back."""

    def __init__(self, codes, inputs=()):
        _check_codes(codes)
        check_inputs(inputs)
        self._codes = codes
        self._inputs = inputs
        self._state = State(codes, inputs)
        # For each step what the machine was ahead of it, and the cell that it has changed; for each collection the
        # number of steps ahead of it, and what the machine was.
        self._past = []
        self._collected = []
        self._state.begin_unit(0)
        self.ends = None

    @property
    def output(self):
        """The lines that were printed."""
        return tuple(self._state.lines)

    @property
    def left(self):
        """The inputs that are left."""
        return self._inputs[self._state.taken:]

    @property
    def frames(self):
        """The frames, the newest last."""
        found = []
        chain = self._state.chain
        while chain is not None:
            found.append(chain[0])
            chain = chain[1]
        return tuple(found[::-1])

    @property
    def heap(self):
        """The cells by their addresses."""
        return {address: cell for address, cell in enumerate(self._state.cells)}

    @property
    def units(self):
        """The tables of the units that have returned, by names."""
        return {name: self._state.tables[name] for name in sorted(self._state.tables)}

    def _do_step(self):
        moment = self._state.moment()
        found = do_step(self._state)
        self._past.append((moment, self._state.changed))
        return found

    def step(self):
        """Do a step; the unit, block and index of its instruction."""
        if self._state.final is not None:
            raise InvalidOperation("the run is over")
        found = self._do_step()
        self.ends = self._state.final
        return found

    def go_on(self, *, most=1000):
        """Do steps until the run is over, at most so many; how many it did."""
        check_most(most)
        many = 0
        while many < most and self._state.final is None:
            self._do_step()
            many += 1
        self.ends = self._state.final
        return many

    def collect(self):
        """Take away all cells to which no way leads; how many are gone."""
        self._collected.append((len(self._past), self._state.uncollected()))
        return self._state.collect()

    def reached(self):
        """The ascending tuple of the addresses to which ways lead."""
        return tuple(self._state.reached())

    def cell(self, address):
        """The cell at an address."""
        if not is_integer(address) or not 0 <= address < len(self._state.cells):
            raise InvalidNumber(address)
        return self._state.cells[address]

    def shown(self, book, face):
        """The pairs (name, text) of the values of the last unit's table, by a face of it."""
        check_scope(book, face)
        if self._state.final != ("done",):
            raise InvalidOperation("the run has not ended so that there is a table")
        table = self._state.tables[self._codes[-1][0]]
        if _lacks(self._state, table, face):
            raise InvalidOperation("the table lacks a field of the face")
        return texts_of_face(book, face, self._state, table)

    def undo(self, *, many=1):
        """Take the last steps back, with what was collected behind them; how many steps there are then."""
        if not is_whole(many):
            raise InvalidNumber(many)
        if many > len(self._past):
            raise NothingToUndo(many)
        for _ in range(many):
            while self._collected and self._collected[-1][0] == len(self._past):
                self._state.back_from_collection(self._collected.pop()[1])
            moment, changed = self._past.pop()
            self._state.back(moment, changed)
        self.ends = self._state.final
        return len(self._past)

    def twin(self):
        """An equal machine that goes on by itself."""
        machine = Machine((("U", Code(NOTHING)),))
        machine._codes = self._codes
        machine._inputs = self._inputs
        machine._state = self._state.copied()
        machine._past = list(self._past)
        machine._collected = list(self._collected)
        machine.ends = self.ends
        return machine

    def __eq__(self, other):
        if not isinstance(other, Machine) or self._inputs != other._inputs or len(self._past) != len(other._past):
            return False
        return self._codes == other._codes

    def __len__(self):
        return len(self._past)

    def __str__(self):
        many = 0 if self._state.chain is None else self._state.chain[2]
        return f"machine: {len(self._past)} steps, {many} frames, {len(self._state.cells)} cells"
