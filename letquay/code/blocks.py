"""Code: blocks of instructions."""

from letquay.checks import is_integer, is_whole
from letquay.code.core import are_ascending_keys, is_key, is_letters, is_reserved
from letquay.errors import InvalidCode, InvalidNumber
from letquay.text.forms import ONE_OPERAND, TWO_OPERANDS, is_literal_integer
from letquay.text.names import is_high

MOST_BLOCKS = 20001
MOST_INSTRUCTIONS = 4000200
MOST_SLOTS = 100000

# What stands behind the word of an instruction.
INSTRUCTIONS = {
    "int": ("integer",), "string": ("string",), "slot": ("whole",), "set": ("whole",), "drop": (), "free": ("whole",),
    "global": ("high",), "tuple": ("members",), "part": ("whole",), "con": ("high", "boolean"), "carried": (),
    "table": ("keys",), "field": ("key",), "exception": ("high",), "reserved": ("reserved",), "packet": ("boolean",),
    "closure": ("whole", "whole"), "group": ("pairs",), "op": ("word",), "jump": ("whole",), "unless": ("whole",),
    "differs": ("kind", "what", "whole"), "strange": ("whole",), "call": (), "tail": (), "return": (), "raise": (),
    "handle": ("whole",), "unhandle": (),
}


def _is_pair(value):
    return isinstance(value, tuple) and len(value) == 2 and is_whole(value[0]) and is_whole(value[1])


def _is_string_in(value, words):
    return isinstance(value, str) and value in words


def _is_what(kind, value):
    """Whether the value can be compared with values of a kind."""
    if kind == "int":
        return is_literal_integer(value)
    return is_letters(value) if kind == "string" else is_high(value)


def _is_part(sort, value):
    """Whether the value is a part of an instruction."""
    if sort == "whole":
        return is_whole(value)
    if sort == "integer":
        return is_literal_integer(value)
    if sort == "string":
        return is_letters(value)
    if sort == "high":
        return is_high(value)
    if sort == "boolean":
        return isinstance(value, bool)
    if sort == "key":
        return is_key(value)
    if sort == "keys":
        return are_ascending_keys(value)
    if sort == "reserved":
        return is_reserved(value)
    if sort == "members":
        return is_whole(value) and value != 1
    if sort == "word":
        return _is_string_in(value, ONE_OPERAND) or _is_string_in(value, TWO_OPERANDS)
    return isinstance(value, tuple) and len(value) > 0 and all([_is_pair(pair) for pair in value])


def is_instruction(value):
    """Whether any value is an instruction by its form."""
    if not isinstance(value, tuple) or len(value) == 0 or not isinstance(value[0], str):
        return False
    sorts = INSTRUCTIONS.get(value[0])
    if sorts is None or len(value) != 1 + len(sorts):
        return False
    if value[0] == "differs":
        kind, what, target = value[1:]
        return _is_string_in(kind, ("int", "string", "con")) and _is_what(kind, what) and is_whole(target)
    return all([_is_part(sort, part) for sort, part in zip(sorts, value[1:])])


def _is_block(value, first):
    """Whether any value is a block by its form, the first one or another one."""
    if not isinstance(value, tuple) or len(value) != 3:
        return False
    free, slots, instructions = value
    if not is_whole(free) or not is_whole(slots) or free > MOST_SLOTS or slots > MOST_SLOTS:
        return False
    if free > 0 if first else slots == 0:
        return False
    return isinstance(instructions, tuple) and len(instructions) > 0


def _are_blocks(value):
    if not isinstance(value, tuple) or not 1 <= len(value) <= MOST_BLOCKS:
        return False
    if not all([_is_block(block, k == 0) for k, block in enumerate(value)]):
        return False
    if sum([len(block[2]) for block in value]) > MOST_INSTRUCTIONS:
        return False
    return all([is_instruction(instruction) for block in value for instruction in block[2]])


def are_units(value):
    """Whether the value is an ascending tuple of names of units."""
    if not isinstance(value, tuple) or not all([is_high(name) for name in value]):
        return False
    return all([low < high for low, high in zip(value, value[1:])])


class Code:
    """Blocks, and the units that they can name. It never changes."""

    def __init__(self, blocks, uses=()):
        if not _are_blocks(blocks) or not are_units(uses):
            raise InvalidCode("these are no blocks, or no ascending tuple of units")
        self.blocks = blocks
        self._uses = uses
        self.size = sum([len(block[2]) for block in blocks])

    @property
    def uses(self):
        """The ascending tuple of the names of the units that it uses."""
        return self._uses

    def at(self, block, index):
        """An instruction."""
        if not is_integer(block) or not 0 <= block < len(self.blocks):
            raise InvalidNumber(block)
        if not is_integer(index) or not 0 <= index < len(self.blocks[block][2]):
            raise InvalidNumber(index)
        return self.blocks[block][2][index]

    def __eq__(self, other):
        return isinstance(other, Code) and self.blocks == other.blocks and self._uses == other._uses

    def __len__(self):
        return len(self.blocks)

    def __str__(self):
        return f"code of {len(self.blocks)} blocks, {self.size} instructions"
