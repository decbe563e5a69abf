"""A second judge of code, which follows all ways with all that is known on each; and random code near sound code."""

from letquay.text.forms import ONE_OPERAND

POPS = {
    "int": 0, "string": 0, "slot": 0, "set": 1, "drop": 1, "free": 0, "global": 0, "part": 1, "carried": 1, "field": 1,
    "exception": 0, "reserved": 0, "jump": 0, "unless": 1, "differs": 1, "strange": 2, "call": 2, "tail": 2, "return": 1,
    "raise": 1, "handle": 0, "unhandle": 0}
PUSHES = ("int", "string", "slot", "free", "global", "part", "carried", "field", "exception", "reserved", "call", "tuple",
          "con", "table", "packet", "closure", "op")
ENDS = ("jump", "tail", "return", "raise")


def pops_of(instruction):
    word = instruction[0]
    if word == "tuple":
        return instruction[1]
    if word == "con":
        return int(instruction[2])
    if word == "table":
        return len(instruction[1])
    if word == "packet":
        return 1 + int(instruction[1])
    if word == "closure":
        return instruction[2]
    if word == "group":
        return sum(n for _, n in instruction[1])
    if word == "op":
        return 1 if instruction[1] in ONE_OPERAND else 2
    return POPS[word]


def pushes_of(instruction):
    if instruction[0] == "group":
        return len(instruction[1])
    return 1 if instruction[0] in PUSHES else 0


def judged(code):
    """For sound code the dict from (block, index) to (height, handlers, known slots), else None."""
    found = {}
    for b, (free, slots, instructions) in enumerate(code.blocks):
        states = {}
        todo = [(0, 0, (), frozenset() if b == 0 else frozenset([0]))]
        seen = set()
        while todo:
            state = todo.pop()
            if state in seen:
                continue
            seen.add(state)
            at, height, handlers, known = state
            if at >= len(instructions):
                return None
            states.setdefault(at, []).append(state)
            if states[at][0][1:3] != (height, handlers):
                return None
            behind = ways(code, b, instructions[at], state)
            if behind is None:
                return None
            todo.extend(behind)
        for at, several in states.items():
            found[b, at] = several[0][1], several[0][2], frozenset.intersection(*[state[3] for state in several])
    return found


def ways(code, b, instruction, state):
    """The states behind an instruction, or None if it is not right."""
    at, height, handlers, known = state
    free, slots, _ = code.blocks[b]
    word = instruction[0]
    left = height - pops_of(instruction)
    if left < (handlers[-1][0] if handlers else 0):
        return None
    if word == "slot" and instruction[1] not in known or word in ("slot", "set") and instruction[1] >= slots:
        return None
    if word == "free" and instruction[1] >= free or word == "global" and instruction[1] not in code.uses:
        return None
    pairs = [instruction[1:]] if word == "closure" else instruction[1] if word == "group" else []
    for block, own in pairs:
        more = len(pairs) if word == "group" else 0
        if not 0 < block < len(code.blocks) or code.blocks[block][0] != own + more:
            return None
    if word == "return" and (height != 1 or handlers) or word == "tail" and (height != 2 or handlers):
        return None
    if word == "unhandle" and not handlers:
        return None
    behind = left + pushes_of(instruction)
    found = []
    if word in ("jump", "unless", "differs", "strange", "handle"):
        found.append((instruction[-1], behind + (word == "handle"), handlers, known))
    if word == "handle":
        handlers = (*handlers, (height, instruction[1]))
    if word == "unhandle":
        handlers = handlers[:-1]
    if word == "set":
        known = known | {instruction[1]}
    if word not in ENDS:
        found.append((at + 1, behind, handlers, known))
    return found


def random_instruction(random, blocks, length):
    n = random.randint(0, 3)
    t = random.randint(0, length)
    return random.choice((
        ("int", n), ("slot", n), ("set", n), ("drop",), ("free", n), ("global", random.choice("UV")), ("tuple", random.choice((0, 2, 3))),
        ("part", n), ("con", "C", random.random() < 0.5), ("carried",), ("field", ("value", "x")), ("packet", random.random() < 0.5),
        ("reserved", "Div"), ("closure", random.randint(0, blocks), n), ("group", ((random.randint(0, blocks), n),)),
        ("op", random.choice(("+", "!", "="))), ("jump", t), ("unless", t), ("differs", "int", n, t), ("strange", t), ("call",),
        ("tail",), ("return",), ("raise",), ("handle", t), ("unhandle",)))


def changed_blocks(random, blocks):
    """Blocks in which a few things are other ones."""
    blocks = [[free, slots, list(instructions)] for free, slots, instructions in blocks]
    for _ in range(random.randint(1, 2)):
        b = random.randrange(len(blocks))
        rows = blocks[b][2]
        at = random.randrange(len(rows))
        how = random.randint(0, 5)
        if how == 0:
            rows[at] = random_instruction(random, len(blocks), len(rows))
        elif how == 1:
            rows.insert(at, random_instruction(random, len(blocks), len(rows)))
        elif how == 2 and len(rows) > 1:
            del rows[at]
        elif how == 3 and rows[at][0] in ("jump", "unless", "differs", "strange", "handle"):
            rows[at] = (*rows[at][:-1], max(0, rows[at][-1] + random.choice((-2, -1, 1, 2))))
        elif how == 4:
            blocks[b][1] = max(0 if b == 0 else 1, blocks[b][1] + random.choice((-1, 1)))
        elif b > 0:
            blocks[b][0] = max(0, blocks[b][0] + random.choice((-1, 1)))
    return tuple((free, slots, tuple(rows)) for free, slots, rows in blocks)
