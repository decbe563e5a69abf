"""Sessions: units that grow, phrase by phrase."""

from letquay.checks import is_whole
from letquay.errors import InvalidNumber, NothingToUndo, ParseError, Refused, TooMany, UnknownName
from letquay.modules.programs import typed_unit
from letquay.rules.runs import MAX_STEPS, Run, check_inputs
from letquay.text.printer import write_declaration
from letquay.text.reader import read_declaration, read_expression
from letquay.text.tokens import tokens_of
from letquay.text.trees import MAX_DEPTH, MAX_NODES, depth_of, is_unit, names_bound

DECLARING = ("val", "type", "datatype", "exception", "structure", "open", "signature", "functor")


def _value_of(text, tree):
    """The declaration of `it` by an expression with a text: an error if it is too deep."""
    if depth_of(tree, "expression") == MAX_DEPTH:
        raise ParseError(len(text))
    return ("val", ("name", "it"), tree)


def _phrase_of(text):
    """The declaration that a phrase is."""
    if isinstance(text, str) and tokens_of(text)[0][0] in DECLARING:
        return read_declaration(text)
    return _value_of(text, read_expression(text))


def _typed(declarations):
    """The program of declarations, each of which is right."""
    if not is_unit(declarations):
        raise TooMany(MAX_NODES)
    return typed_unit(declarations)


class Standing:
    """What stands behind some phrases: the program, the texts of its values, what was printed, how much was read."""

    def __init__(self, declarations, inputs):
        self.trees = declarations
        self.typed = _typed(declarations)
        run = Run(self.typed, inputs)
        run.go_on(most=MAX_STEPS)
        if run.ends is None:
            raise Refused(("long",))
        if run.ends[0] == "raised":
            raise Refused(run.ends)
        self.texts = dict(run.ends[1])
        self.lines = run.output
        self.taken = run.reads

    def lines_of_values(self, names):
        """A line for each of some values."""
        schemes = self.typed.face.schemes
        return [f"val {name} : {schemes[name].text(self.typed.book)} = {self.texts[name]}" for name in names]

    def lines_of(self, tree):
        """The lines that tell what a declaration has declared."""
        word = tree[0]
        if word == "val":
            return self.lines_of_values(names_bound(tree[1]))
        if word == "rec":
            return self.lines_of_values(sorted([name for name, _ in tree[1]]))
        if word == "open":
            return []
        if word == "type":
            return [f"type {tree[2]}"]
        if word == "data":
            names = ", ".join([name for _, name, _ in tree[1]])
            return [f"datatype {names}"]
        return [f"{'exception' if word == 'alias' else word} {tree[1]}"]


class Session:
    """Phrases that stand. All that was is kept, so that phrases can be taken back and given again."""

    def __init__(self, inputs=()):
        check_inputs(inputs)
        self._inputs = inputs
        # What stands behind 0, 1, .. phrases, and what was taken back, the next one to be given again last.
        self._state = ((Standing((), inputs),), ())

    def _now(self):
        return self._state[0][-1]

    def phrase(self, text):
        """Give a phrase; the lines that answer it."""
        tree = _phrase_of(text)
        standings, _ = self._state
        before = standings[-1]
        after = Standing((*before.trees, tree), self._inputs)
        self._state = ((*standings, after), ())
        return (*after.lines[len(before.lines):], *after.lines_of(tree))

    def asked(self, text):
        """The text of the scheme of an expression."""
        tree = _value_of(text, read_expression(text))
        program = _typed((*self._now().trees, tree))
        return program.face.schemes["it"].text(program.book)

    @property
    def inputs(self):
        """The inputs."""
        return self._inputs

    @property
    def phrases(self):
        """The declarations that stand."""
        return self._state[0][-1].trees

    @property
    def program(self):
        """The program of the phrases."""
        return self._state[0][-1].typed

    @property
    def output(self):
        """All lines that were printed."""
        return self._state[0][-1].lines

    @property
    def reads(self):
        """How many inputs were read."""
        return self._state[0][-1].taken

    @property
    def names(self):
        """The ascending tuple of the values."""
        return tuple([name for name in self._state[0][-1].texts if "." not in name])

    def scheme_of(self, name):
        """The text of the scheme of a value."""
        if name not in self.names:
            raise UnknownName(name)
        program = self._now().typed
        return program.face.schemes[name].text(program.book)

    def text(self, name):
        """The text of a value."""
        if name not in self.names:
            raise UnknownName(name)
        return self._now().texts[name]

    def undo(self, *, many=1):
        """Take the last phrases back; the texts of them, the first moved one ahead."""
        if not is_whole(many):
            raise InvalidNumber(many)
        standings, undone = self._state
        if many >= len(standings):
            raise NothingToUndo(many)
        left = len(standings) - many
        moved = standings[left:][::-1]
        self._state = (standings[:left], (*undone, *moved))
        return tuple([write_declaration(standing.trees[-1]) for standing in moved])

    def redo(self, *, many=1):
        """Give the phrases again that were taken back last; the texts of them, the first moved one ahead."""
        if not is_whole(many):
            raise InvalidNumber(many)
        standings, undone = self._state
        if many > len(undone):
            raise NothingToUndo(many)
        left = len(undone) - many
        moved = undone[left:][::-1]
        self._state = ((*standings, *moved), undone[:left])
        return tuple([write_declaration(standing.trees[-1]) for standing in moved])

    def during(self, call):
        """What a call with the session returns; then all is as before."""
        held = self._state
        try:
            return call(self)
        finally:
            self._state = held

    def twin(self):
        """An equal session with the same past that goes on by itself."""
        session = Session(self._inputs)
        session._state = self._state
        return session

    def __eq__(self, other):
        if not isinstance(other, Session) or self._inputs != other._inputs:
            return False
        return self._state[0][-1].trees == other._state[0][-1].trees

    def __len__(self):
        return len(self._state[0][-1].trees)

    def __str__(self):
        return f"session of {len(self._state[0][-1].trees)} phrases"
