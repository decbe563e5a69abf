"""What a run has: its next step, its frames, references, exceptions, inputs and output."""

from letquay.data.faces import RESERVED_EXCEPTIONS
from letquay.rules.values import base_scope


class Play:
    """The state of a run. `word` is the kind of the next step, and `what` it is about.

    Frames are a chain of triples (frame, frames behind it, how many), so that those of each step can be kept.
    """

    def __init__(self, inputs):
        self.word = None
        self.what = None
        self.chain = None
        self.given = inputs
        self.taken = 0
        self.cells = []
        self.labels = list(RESERVED_EXCEPTIONS)
        self.lines = []
        # The items of the table of the program, or the value of the exception, when the run is over.
        self.final = None
        # How many declarations are done at the end, and the scope behind them.
        self.ended = None
        # The pair (cell, what it had) of the reference that the last step has changed.
        self.changed = None

    def begin(self, trees):
        """Begin with the declarations of a program."""
        if trees:
            self.push(("list", trees, 0, base_scope(), {}, True))
            self.word = "declare"
        else:
            self.be_done(0, base_scope(), {})

    def go_further(self, trees):
        """Go on with the declarations of a program that begins with those that are done."""
        self.push(("list", trees, self.ended[0], self.ended[1], self.final[1], True))
        self.word = "declare"
        self.final = None

    def copied(self):
        """An equal state that goes on by itself."""
        play = Play(self.given)
        play.word, play.what, play.chain = self.word, self.what, self.chain
        play.taken, play.final, play.ended = self.taken, self.final, self.ended
        play.cells, play.labels, play.lines = list(self.cells), list(self.labels), list(self.lines)
        return play

    def moment(self):
        """What is needed to come back to this state."""
        return self.word, self.what, self.chain, self.taken, len(self.cells), len(self.labels), len(self.lines)

    def back(self, moment, changed):
        """Come back to a state, from the next one, which has changed a reference or none."""
        self.word, self.what, self.chain, self.taken, cells, labels, lines = moment
        del self.cells[cells:]
        del self.labels[labels:]
        del self.lines[lines:]
        self.final = None
        if changed is not None:
            index, value = changed
            self.cells[index] = value

    def push(self, frame):
        """Make a frame."""
        self.chain = (frame, self.chain, 1 if self.chain is None else self.chain[2] + 1)

    def take(self):
        """Remove the newest frame."""
        frame, self.chain, _ = self.chain
        return frame

    def put_frame(self, frame):
        """Put a frame in the place of the newest one."""
        _, behind, many = self.chain
        self.chain = (frame, behind, many)

    def look(self, tree, scope):
        """Look at a tree next."""
        self.word = "look"
        self.what = (tree, scope)

    def give(self, value):
        """Give a value next."""
        self.word = "give"
        self.what = value

    def carry(self, packet):
        """Carry an exception next."""
        self.word = "carry"
        self.what = packet

    def try_rows(self, rows, value, scope, carried):
        """Try rows next; if there are none left, an exception is carried on, or `Match` raised if this is `None`."""
        self.word = "try"
        self.what = (rows, 0, value, scope, carried)

    def be_done(self, many, scope, table):
        """Let the run be over, with so many declarations, the scope behind them, and their table."""
        self.ended = (many, scope)
        self.be_over(("table", table))

    def be_over(self, final):
        """Let the run be over."""
        self.word = None
        self.what = None
        self.final = final

    def new_reference(self, value):
        """The value of a new reference."""
        self.cells.append(value)
        return ("ref", len(self.cells) - 1)

    def new_exception(self, name):
        """The number of a new exception."""
        self.labels.append(name)
        return len(self.labels) - 1

    def put_into(self, index, value):
        """Put a value into a reference."""
        self.changed = (index, self.cells[index])
        self.cells[index] = value

    def next_input(self):
        """The value of the next input, or `None` if there is none."""
        if self.taken == len(self.given):
            return None
        self.taken += 1
        return ("int", self.given[self.taken - 1])

    def seen(self, value):
        """A value, with what a reference has, and with the name of an exception, in the place of numbers."""
        if value[0] == "ref":
            return ("ref", self.cells[value[1]])
        return ("packet", self.labels[value[1]]) if value[0] == "packet" else value

    def value_at(self, table, path):
        """The value at a path of a table."""
        for name in path[:-1]:
            table = table[1][("structure", name)]
        return table[1][("value", path[-1])]
