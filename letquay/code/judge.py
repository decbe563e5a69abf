"""The judge of code: whether it is sound, and what is known of it."""

from letquay.checks import is_integer
from letquay.code.blocks import Code
from letquay.errors import InvalidCode, InvalidNumber, InvalidOperation
from letquay.text.forms import ONE_OPERAND

# How many values instructions pop and push that always do the same.
EFFECTS = {
    "int": (0, 1), "string": (0, 1), "slot": (0, 1), "set": (1, 0), "drop": (1, 0), "free": (0, 1), "global": (0, 1),
    "part": (1, 1), "carried": (1, 1), "field": (1, 1), "exception": (0, 1), "reserved": (0, 1), "jump": (0, 0),
    "unless": (1, 0), "differs": (1, 0), "strange": (2, 0), "call": (2, 1), "tail": (2, 0), "return": (1, 0),
    "raise": (1, 0), "handle": (0, 0), "unhandle": (0, 0),
}
# Behind these nothing goes on at the next instruction.
ENDING = ("jump", "tail", "return", "raise")
# These can go on at their last part.
TARGETED = ("jump", "unless", "differs", "strange", "handle")


def effect_of(instruction):
    """The pair of how many values an instruction pops and pushes."""
    word = instruction[0]
    if word in EFFECTS:
        return EFFECTS[word]
    if word == "tuple":
        return instruction[1], 1
    if word == "con":
        return (1 if instruction[2] else 0), 1
    if word == "table":
        return len(instruction[1]), 1
    if word == "packet":
        return (2 if instruction[1] else 1), 1
    if word == "closure":
        return instruction[2], 1
    if word == "group":
        return sum([pair[1] for pair in instruction[1]]), len(instruction[1])
    return (1 if instruction[1] in ONE_OPERAND else 2), 1


class BlockJudge:
    """A block that is judged. Rows of open handlers are numbered; equal ones have equal numbers, 0 is none.

    For each instruction to which a way leads there are its height, its row of handlers and its known slots, the last
    ones as the bits of an integer.
    """

    def __init__(self, code, index):
        self.code = code
        self.index = index
        self.free, self.slots, self.instructions = code.blocks[index]
        self.heights = [None for _ in self.instructions]
        self.handlers = [None for _ in self.instructions]
        self.known = [None for _ in self.instructions]
        # For each row of handlers the row outside of its innermost one, and the height of this one.
        self.rows = [(0, 0)]
        self.row_numbers = {}
        self.todo = []

    def is_sound(self):
        """Whether the block is sound."""
        self._come(0, 0, 0, 0 if self.index == 0 else 1)
        while self.todo:
            at = self.todo.pop()
            if not self._is_right(at) or not self._go_on(at):
                return False
        return all([
            self.known[at] >> instruction[1] & 1 == 1 for at, instruction in enumerate(self.instructions)
            if instruction[0] == "slot" and self.heights[at] is not None])

    def _with_handler(self, handlers, height, target):
        """The number of a row of handlers with one more inside."""
        key = (handlers, height, target)
        if key not in self.row_numbers:
            self.row_numbers[key] = len(self.rows)
            self.rows.append((handlers, height))
        return self.row_numbers[key]

    def _come(self, at, height, handlers, known):
        """Come to an instruction; whether it is there, and ways that come together there are alike."""
        if at >= len(self.instructions):
            return False
        if self.heights[at] is None:
            self.heights[at], self.handlers[at], self.known[at] = height, handlers, known
            self.todo.append(at)
            return True
        if self.heights[at] != height or self.handlers[at] != handlers:
            return False
        if self.known[at] & known != self.known[at]:
            self.known[at] = self.known[at] & known
            self.todo.append(at)
        return True

    def _is_right(self, at):
        """Whether an instruction can be done with the height and handlers that it has, and names what is there."""
        instruction = self.instructions[at]
        word = instruction[0]
        height, handlers = self.heights[at], self.handlers[at]
        if height - effect_of(instruction)[0] < self.rows[handlers][1]:
            return False
        if word in ("return", "tail"):
            return handlers == 0 and height == (1 if word == "return" else 2)
        if word == "unhandle":
            return handlers > 0
        if word in ("slot", "set"):
            return instruction[1] < self.slots
        if word == "free":
            return instruction[1] < self.free
        if word == "global":
            return instruction[1] in self.code.uses
        if word == "closure":
            return self._is_function(instruction[1], instruction[2])
        if word == "group":
            many = len(instruction[1])
            return all([self._is_function(block, own + many) for block, own in instruction[1]])
        return True

    def _is_function(self, block, many):
        """Whether a block is one of a function that holds so many values."""
        return 0 < block < len(self.code.blocks) and self.code.blocks[block][0] == many

    def _go_on(self, at):
        """Come to all instructions behind one."""
        instruction = self.instructions[at]
        word = instruction[0]
        pops, pushes = effect_of(instruction)
        height, handlers, known = self.heights[at] - pops + pushes, self.handlers[at], self.known[at]
        if word in TARGETED:
            more = 1 if word == "handle" else 0
            if not self._come(instruction[-1], height + more, handlers, known):
                return False
        if word in ENDING:
            return True
        if word == "set":
            known = known | 1 << instruction[1]
        elif word == "handle":
            handlers = self._with_handler(handlers, height, instruction[1])
        elif word == "unhandle":
            handlers = self.rows[handlers][0]
        return self._come(at + 1, height, handlers, known)


def _judges(code):
    """The judges of all blocks, behind their judging: an error if one is not sound."""
    if not isinstance(code, Code):
        raise InvalidCode("this is no code")
    found = []
    for index in range(len(code.blocks)):
        judge = BlockJudge(code, index)
        if not judge.is_sound():
            raise InvalidCode("this code is not sound")
        found.append(judge)
    return found


def is_sound(code):
    """Whether code is sound."""
    if not isinstance(code, Code):
        raise InvalidCode("this is no code")
    return all([BlockJudge(code, index).is_sound() for index in range(len(code.blocks))])


def heights(code):
    """The heights of all instructions of sound code; `None` for one to which no way leads."""
    return tuple([tuple(judge.heights) for judge in _judges(code)])


def known_slots(code, block, index):
    """The slots known ahead of an instruction of sound code."""
    judges = _judges(code)
    if not is_integer(block) or not 0 <= block < len(judges):
        raise InvalidNumber(block)
    known = judges[block].known
    if not is_integer(index) or not 0 <= index < len(known):
        raise InvalidNumber(index)
    if known[index] is None:
        raise InvalidOperation("no way leads to this instruction")
    return tuple([slot for slot in range(known[index].bit_length()) if known[index] >> slot & 1])
