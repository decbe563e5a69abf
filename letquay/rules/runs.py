"""Runs of programs by the rules, step by step."""

from letquay.checks import is_integer, is_whole
from letquay.errors import InvalidNumber, InvalidOperation, InvalidUnit, NothingToUndo
from letquay.modules.programs import Program
from letquay.rules.playing import Play
from letquay.rules.steps import do_step
from letquay.rules.texts import texts_of_face
from letquay.text.forms import is_literal_integer

MAX_STEPS = 20000
MAX_STRING = 10000
MAX_SHOWN = 400


def check_inputs(inputs):
    """Raise an error unless it is a tuple of integers of 63 bits."""
    if not isinstance(inputs, tuple) or not all([is_literal_integer(number) for number in inputs]):
        raise InvalidOperation("inputs are a tuple of integers of 63 bits")


class Run:
    """A run of a program. All its steps are kept, so that they can be taken back."""

    def __init__(self, program, inputs=()):
        if not isinstance(program, Program) or program.uses:
            raise InvalidUnit("a run is one of a program without used units")
        check_inputs(inputs)
        self._program = program
        self._inputs = inputs
        self._play = Play(inputs)
        # For each step what the run was ahead of it, and the reference that it has changed.
        self._past = []
        self._play.begin(program.declarations)
        self._tell()

    def _tell(self):
        """Set what the run tells of its next step and of its end."""
        self.next = self._play.word
        self.ends = None
        final = self._play.final
        if final is not None and final[0] == "table":
            self.ends = ("done", texts_of_face(self._program.book, self._program.face, self._play, final))
        elif final is not None:
            self.ends = ("raised", self._play.seen(final)[1])

    @property
    def program(self):
        """The program."""
        return self._program

    @property
    def inputs(self):
        """The inputs."""
        return self._inputs

    @property
    def output(self):
        """The lines that were printed."""
        return tuple(self._play.lines)

    @property
    def reads(self):
        """How many inputs were read."""
        return self._play.taken

    @property
    def frames(self):
        """How many frames there are."""
        return 0 if self._play.chain is None else self._play.chain[2]

    def _do_step(self):
        moment = self._play.moment()
        do_step(self._play)
        self._past.append((moment, self._play.changed))

    def step(self):
        """Do one step; the kind of the next one."""
        if self._play.word is None:
            raise InvalidOperation("the run is over")
        self._do_step()
        self._tell()
        return self.next

    def go_on(self, *, most=1000):
        """Do at most so many steps; how many it did."""
        if not is_integer(most) or not 0 <= most <= MAX_STEPS:
            raise InvalidNumber(most)
        if self._play.word is None:
            return 0
        many = 0
        while many < most and self._play.word is not None:
            self._do_step()
            many += 1
        self._tell()
        return many

    def is_over(self):
        """Whether the run is over."""
        return self._play.word is None

    def undo(self, *, many=1):
        """Take steps back, with all that they did; how many are left."""
        if not is_whole(many):
            raise InvalidNumber(many)
        if many > len(self._past):
            raise NothingToUndo(many)
        for _ in range(many):
            moment, changed = self._past.pop()
            self._play.back(moment, changed)
        if many > 0:
            self._tell()
        return len(self._past)

    def twin(self):
        """An equal run that goes on by itself."""
        run = Run(self._program, self._inputs)
        run._play = self._play.copied()
        run._past = list(self._past)
        run.next = self.next
        run.ends = self.ends
        return run

    def __eq__(self, other):
        if not isinstance(other, Run) or self._inputs != other._inputs or len(self._past) != len(other._past):
            return False
        one, two = self._program, other._program
        return one.declarations == two.declarations and one.signature == two.signature

    def __len__(self):
        return len(self._past)

    def __str__(self):
        many = len(self._past)
        if self.ends is None:
            return f"run: {many} steps, {self.frames} frames"
        return f"run: {many} steps, {'done' if self.ends[0] == 'done' else 'raised ' + self.ends[1]}"


def outcome(program, inputs=(), *, most=20000):
    """The ends of a run behind at most so many steps."""
    run = Run(program, inputs)
    run.go_on(most=most)
    return ("long",) if run.ends is None else run.ends
