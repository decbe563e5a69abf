"""What blocks, and the names in them, are while they are being made."""

from letquay.code.judge import TARGETED


class Block:
    """A block that is being made. Targets are labels until it is finished.

    A "sibling" among the functions of a group stands behind the values that a function holds, so its place is known
    at last.
    """

    def __init__(self, slots):
        self.instructions = []
        self.slots = slots
        self.labels = []
        self.targets = {}
        self.held = {}

    def new_slot(self):
        """A slot that nothing else uses."""
        self.slots += 1
        return self.slots - 1

    def new_label(self):
        """A label that is put nowhere yet."""
        self.labels.append(None)
        return len(self.labels) - 1

    def put_label(self, label):
        """Let a label be ahead of the next instruction."""
        self.labels[label] = len(self.instructions)

    def add_instruction(self, instruction):
        """Add an instruction."""
        self.instructions.append(instruction)
        if instruction[0] in TARGETED:
            self.targets[instruction[-1]] = True

    def held_at(self, binding):
        """The place of a value among those that are held."""
        return self.held.setdefault(binding, len(self.held))

    def _finished(self, instruction):
        word = instruction[0]
        if word in TARGETED:
            return (*instruction[:-1], self.labels[instruction[-1]])
        return ("free", len(self.held) + instruction[1]) if word == "sibling" else instruction

    def finished(self, siblings):
        """The block, for a function of a group of so many, or 0."""
        instructions = [self._finished(instruction) for instruction in self.instructions]
        return (len(self.held) + siblings, self.slots, tuple(instructions))


class Bindings:
    """What keys stand for: triples (level, word, place), with the level of a block, the innermost bindings last."""

    def __init__(self):
        self.stacks = {}

    def bind(self, key, binding):
        """Let a key stand for something."""
        self.stacks.setdefault(key, []).append(binding)

    def unbind(self, key):
        """Let a key stand for what it stood for ahead of its last binding."""
        self.stacks[key].pop()

    def innermost(self, key):
        """The innermost binding of a key, or `None`."""
        rows = self.stacks.get(key)
        return rows[-1] if rows else None
