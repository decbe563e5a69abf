"""What a machine has: its frames, heap, tables of units, inputs and output.

A frame is a tuple (unit, block, index, operands, slots, values, handlers). Frames are a chain of triples (frame, frames
behind it, how many), and are replaced instead of changed, so that those of each step can be kept. As addresses are
given one after the other, the heap is a list.
"""

from letquay.data.faces import RESERVED_EXCEPTIONS


def inside(cell):
    """The values in a cell."""
    if cell[0] in ("tuple", "closure", "table"):
        return cell[-1]
    return () if cell[-1] is None else (cell[-1],)


def _moved(value, addresses):
    """A value with a new address, of the dict from the old ones."""
    return ("at", addresses[value[1]]) if value is not None and value[0] == "at" else value


def _all_moved(values, addresses):
    return tuple([_moved(value, addresses) for value in values])


def _moved_cell(cell, addresses):
    if cell[0] in ("tuple", "closure", "table"):
        return (*cell[:-1], _all_moved(cell[-1], addresses))
    return (*cell[:-1], _moved(cell[-1], addresses))


class State:
    """The state of a machine that runs some codes, pairs (name of a unit, code)."""

    def __init__(self, codes, inputs):
        self.codes = codes
        self.blocks = {name: code.blocks for name, code in codes}
        self.given = inputs
        self.taken = 0
        self.cells = []
        self.labels = list(RESERVED_EXCEPTIONS)
        self.lines = []
        self.tables = {}
        self.chain = None
        self.final = None
        # The pair (address, cell that was there) of the cell that the last step has changed.
        self.changed = None

    def copied(self):
        """An equal state that goes on by itself."""
        state = State(self.codes, self.given)
        state.taken, state.chain, state.final, state.tables = self.taken, self.chain, self.final, self.tables
        state.cells, state.labels, state.lines = list(self.cells), list(self.labels), list(self.lines)
        return state

    def begin_unit(self, position):
        """Begin with the code at a position."""
        name, code = self.codes[position]
        self.push((name, 0, 0, (), (None,) * code.blocks[0][1], (), ()))

    def push(self, frame):
        """Begin a frame."""
        self.chain = (frame, self.chain, 1 if self.chain is None else self.chain[2] + 1)

    def put_frame(self, frame):
        """Put a frame in the place of the newest one."""
        _, behind, many = self.chain
        self.chain = (frame, behind, many)

    def finish(self, end):
        """Let the run be over."""
        self.final = end
        self.chain = None

    def new_cell(self, cell):
        """Put a new cell into the heap; the value that leads to it."""
        self.cells.append(cell)
        return ("at", len(self.cells) - 1)

    def cell_of(self, value, word):
        """The cell of this word to which a value leads, or `None`."""
        if value[0] != "at" or self.cells[value[1]][0] != word:
            return None
        return self.cells[value[1]]

    def change(self, address, cell):
        """Put another cell into the place of one."""
        self.changed = (address, self.cells[address])
        self.cells[address] = cell

    def frame_list(self):
        """The list of the frames, the newest last."""
        found = []
        chain = self.chain
        while chain is not None:
            found.append(chain[0])
            chain = chain[1]
        return found[::-1]

    def roots(self):
        """The list of the values from which ways lead to what is still needed."""
        found = list(self.tables.values())
        for _, _, _, operands, slots, values, _ in self.frame_list():
            found.extend(operands)
            found.extend([value for value in slots if value is not None])
            found.extend(values)
        return found

    def reached(self):
        """The ascending list of the addresses to which ways lead from the roots."""
        found = {}
        todo = self.roots()
        while todo:
            value = todo.pop()
            if value[0] == "at" and value[1] not in found:
                found[value[1]] = True
                todo.extend(inside(self.cells[value[1]]))
        return sorted(found)

    def collect(self):
        """Let the heap have just the cells that are reached; how many are gone."""
        reached = self.reached()
        gone = len(self.cells) - len(reached)
        addresses = {old: new for new, old in enumerate(reached)}
        self.cells = [_moved_cell(self.cells[old], addresses) for old in reached]
        self.tables = {name: _moved(value, addresses) for name, value in self.tables.items()}
        frames = self.frame_list()
        self.chain = None
        for unit, block, index, operands, slots, values, handlers in frames:
            self.push((
                unit, block, index, _all_moved(operands, addresses), _all_moved(slots, addresses),
                _all_moved(values, addresses), handlers))
        return gone

    def moment(self):
        """What is needed to come back to this state by `back`."""
        sizes = len(self.cells), len(self.labels), len(self.lines)
        return self.chain, self.tables, self.taken, sizes

    def back(self, moment, changed):
        """Come back to a state, from the next one, which has changed a cell or none."""
        self.chain, self.tables, self.taken, (cells, labels, lines) = moment
        self.final = None
        del self.cells[cells:]
        del self.labels[labels:]
        del self.lines[lines:]
        if changed is not None:
            address, cell = changed
            self.cells[address] = cell

    def uncollected(self):
        """What is needed to come back to this state from behind a collection."""
        return self.chain, self.tables, self.cells

    def back_from_collection(self, kept):
        """Come back to a state ahead of a collection."""
        self.chain, self.tables, heap = kept
        self.cells = list(heap)

    def seen(self, value):
        """A value with what is in its cell, and the name of an exception, in the place of addresses and numbers."""
        if value[0] == "unit":
            return ("tuple", ())
        if value[0] == "word":
            return ("con", value[1], None)
        if value[0] != "at":
            return value
        cell = self.cells[value[1]]
        return ("packet", self.labels[cell[1]]) if cell[0] == "packet" else cell

    def field(self, value, key):
        """The field of a table with a key, or `None` if the value is no table with one."""
        cell = self.cell_of(value, "table")
        return cell[2][cell[1].index(key)] if cell is not None and key in cell[1] else None

    def value_at(self, value, path):
        """The value at a path of a table."""
        for name in path[:-1]:
            value = self.field(value, ("structure", name))
        return self.field(value, ("value", path[-1]))
