"""What blocks, and the names in them, are while they are being made."""

from letquay.code.judge import TARGETED
from letquay.code.tables import Applications, at_key, pick_of

# The level of what is in no block: units.
OUTSIDE = -1
# How many instructions can cut loose tables: more than those of typed units ever need, as faces have 2000 items.
MOST_CUTTING = 10000


class Block:
    """A block that is being made. Targets are labels until it is finished.

    A "sibling" among the functions of a group stands behind the values that a function holds, so its place is known
    at last.
    """

    def __init__(self, slots):
        self.instructions = []
        self.slots = slots
        self.helping_slots = []
        self.labels = []
        self.targets = {}
        self.held = {}

    def new_slot(self):
        """A slot that nothing else uses."""
        self.slots += 1
        return self.slots - 1

    def helping_slot(self, depth):
        """A slot that all cutting of tables uses so deep inside of others, one after the other."""
        while len(self.helping_slots) <= depth:
            self.helping_slots.append(self.new_slot())
        return self.helping_slots[depth]

    def new_label(self):
        """A label that is put nowhere yet."""
        self.labels.append(None)
        return len(self.labels) - 1

    def put_label(self, label):
        """Let a label be ahead of the next instruction."""
        self.labels[label] = len(self.instructions)

    def add_instruction(self, instruction):
        """Add an instruction."""
        self.instructions.append(instruction)
        if instruction[0] in TARGETED:
            self.targets[instruction[-1]] = True

    def held_at(self, binding):
        """The place of a value among those that are held."""
        return self.held.setdefault(binding, len(self.held))

    def _finished(self, instruction):
        word = instruction[0]
        if word in TARGETED:
            return (*instruction[:-1], self.labels[instruction[-1]])
        return ("free", len(self.held) + instruction[1]) if word == "sibling" else instruction

    def finished(self, siblings):
        """The block, for a function of a group of so many, or 0."""
        instructions = [self._finished(instruction) for instruction in self.instructions]
        return (len(self.held) + siblings, self.slots, tuple(instructions))


class Bindings:
    """What keys stand for, the innermost last: places, which are triples (root, keys, known).

    A root is a triple (level, word, place), with the level of a block; the keys are those of fields by which a way
    leads on from there; what is known of the value is a loose table or `None`.
    """

    def __init__(self):
        self.stacks = {}

    def bind(self, key, place):
        """Let a key stand for something."""
        self.stacks.setdefault(key, []).append(place)

    def unbind(self, key):
        """Let a key stand for what it stood for ahead of its last binding."""
        self.stacks[key].pop()

    def innermost(self, key):
        """The innermost place of a key; what is bound nowhere is a unit."""
        rows = self.stacks.get(key)
        return rows[-1] if rows else ((OUTSIDE, "global", key[1]), (), None)

    def place_at(self, path):
        """The place of a name, of a field of a name, or of such a field."""
        fields = []
        while path[0] == "field":
            fields.append(path[2])
            path = path[1]
        root, keys, known = self.innermost(path[1])
        for key in fields[::-1]:
            known = at_key(known, key)
        return root, (*keys, *fields[::-1]), known


class Making:
    """Makes the blocks of a term, with loose tables if they are let."""

    def __init__(self, core, lets_loose):
        self.core = core
        self.blocks = [None]
        # The blocks that are being made, the innermost last, with the numbers that they will have.
        self.levels = [(0, Block(0))]
        self.bindings = Bindings()
        self.todo = []
        self.lets_loose = lets_loose
        # What is known of the parameters and of the results of functors that are nothing but applied.
        self.of_functors = None
        self.results = {}
        self.room = MOST_CUTTING
        # For each way (root, keys) that has been gone for the newest row the slot of what it leads to.
        self.ways = {}

    def block(self):
        """The innermost block."""
        return self.levels[-1][1]

    def emit(self, instruction):
        """Add an instruction to the innermost block."""
        self.block().add_instruction(instruction)

    def emit_all(self, instructions):
        """Add instructions to the innermost block."""
        for instruction in instructions:
            self.emit(instruction)

    def later(self, actions):
        """Do some actions next, in order."""
        self.todo.extend(actions[::-1])

    def push_root(self, root):
        """Push a root; blocks inside of its own one hold it."""
        level, word, place = root
        if level not in (OUTSIDE, len(self.levels) - 1):
            self.emit(("free", self.block().held_at(root)))
        else:
            self.emit((word, place))

    def push_path(self, root, keys):
        """Push a field of a root, which some keys lead to."""
        self.push_root(root)
        self.emit_all([("field", key) for key in keys])

    def push_exception(self, root, keys):
        """Push what is asked for by a row, from the end of the longest way that has been gone for it."""
        gone = len(keys)
        while gone > 0 and (root, keys[:gone]) not in self.ways:
            gone -= 1
        if gone == 0:
            self.push_path(root, keys)
        else:
            self.emit(("slot", self.ways[(root, keys[:gone])]))
            self.emit_all([("field", key) for key in keys[gone:]])

    def push_name(self, key):
        """Push what a name stands for; what is known of it."""
        root, keys, known = self.bindings.innermost(key)
        self.push_path(root, keys)
        return known

    def bind_slot(self, key, slot, known):
        """Let a key stand for a slot of the innermost block."""
        self.bindings.bind(key, ((len(self.levels) - 1, "slot", slot), (), known))

    def pick_in(self, core):
        """The pair of what a term picks and of the loose table that it then is, or `None`."""
        return pick_of(core) if self.lets_loose else None

    def is_functor(self, key):
        """Whether a key that a `let` binds to a function is nothing but applied to what is picked."""
        if self.of_functors is None:
            self.of_functors = Applications(self.core).known_parameters() if self.lets_loose else {}
        return key in self.of_functors

    def is_applied(self, core):
        """Whether a call is one of a functor of which is known that it is nothing but applied."""
        return core[1][0] == "name" and core[1][1] in self.results

    def can_cut(self, table):
        """Whether a loose table can be cut, and not too much is cut."""
        self.room -= 2 * len(table.own_keys) + 2
        return self.room >= 0

    def begin_block(self):
        """Begin a block of a function."""
        self.levels.append((len(self.blocks), Block(1)))
        self.blocks.append(None)

    def end_block(self, siblings):
        """End the innermost block, of a function of a group of so many: its number, and the bindings that it holds."""
        number, block = self.levels.pop()
        self.blocks[number] = block.finished(siblings)
        return number, list(block.held)
