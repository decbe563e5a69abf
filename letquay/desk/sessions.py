"""Sessions: units that grow, phrase by phrase."""

from letquay.checks import is_whole
from letquay.errors import InvalidNumber, NothingToUndo, ParseError, Refused, TooMany, UnknownName
from letquay.modules.bases import inside
from letquay.modules.programs import begun_unit
from letquay.rules.playing import Play
from letquay.rules.runs import MAX_STEPS, check_inputs
from letquay.rules.steps import do_step
from letquay.rules.texts import text_of_value
from letquay.text.printer import write_declaration
from letquay.text.reader import read_declaration, read_expression
from letquay.text.tokens import tokens_of
from letquay.text.trees import MAX_DEPTH, MAX_NODES, count_of, depth_of, names_bound
from letquay.types.books import Book

DECLARING = ("val", "type", "datatype", "exception", "structure", "open", "signature", "functor")


def _value_of(text, tree):
    """The declaration of `it` by an expression with a text: an error if it is too deep."""
    if depth_of(tree, "expression") == MAX_DEPTH:
        raise ParseError(len(text))
    return ("val", ("name", "it"), tree)


def _phrase_of(text):
    """The declaration that a phrase is."""
    if isinstance(text, str) and tokens_of(text)[0][0] in DECLARING:
        return read_declaration(text)
    return _value_of(text, read_expression(text))


class Standing:
    """What stands behind some phrases: how they were typed, and the run of them, which is done. It never changes."""

    def __init__(self, trees, nodes, course, play, many):
        self.trees = trees
        self.many_nodes = nodes
        self.course = course
        self.play = play
        self.many_steps = many
        self.typed = course.as_program(trees, None, course.declaring.face)
        self.lines = tuple(play.lines)
        self.taken = play.taken

    def _course_with(self, tree):
        """The course of the unit with a declaration more."""
        course = self.course.copied()
        try:
            course.declare(tree, (len(self.trees),))
        except Refused as refused:
            raise Refused(inside(refused.reason)) from None
        return course

    def typed_with(self, tree):
        """The pair of the course of the unit with a declaration more, and of how many nodes it has.

        That they are too many is told only of what can be typed.
        """
        course = self._course_with(tree)
        many = count_of(tree, "top")
        if many is None or self.many_nodes + many > MAX_NODES:
            raise TooMany(MAX_NODES)
        return course, self.many_nodes + many

    def asked(self, tree):
        """The text of the scheme of `it`, for a declaration of this value that is not run."""
        course, _ = self.typed_with(tree)
        return course.declaring.face.schemes["it"].text(course.course.book)

    def behind(self, tree):
        """What stands behind a declaration more."""
        course, nodes = self.typed_with(tree)
        trees = (*self.trees, tree)
        play = self.play.copied()
        play.go_further(trees)
        many = self.many_steps
        while play.word is not None and many < MAX_STEPS:
            do_step(play)
            many += 1
        if play.word is not None:
            raise Refused(("long",))
        if play.final[0] != "table":
            raise Refused(("raised", play.seen(play.final)[1]))
        return Standing(trees, nodes, course, play, many)

    def text_of(self, name):
        """The text of a value."""
        return text_of_value(self.typed.book, self.typed.face, self.play, self.play.final, name)

    def lines_of_values(self, names):
        """A line for each of some values."""
        schemes = self.typed.face.schemes
        return [f"val {name} : {schemes[name].text(self.typed.book)} = {self.text_of(name)}" for name in names]

    def lines_of(self, tree):
        """The lines that tell what a declaration has declared."""
        word = tree[0]
        if word == "val":
            return self.lines_of_values(names_bound(tree[1]))
        if word == "rec":
            return self.lines_of_values(sorted([name for name, _ in tree[1]]))
        if word == "open":
            return []
        if word == "type":
            return ["type " + tree[2]]
        if word == "data":
            names = ", ".join([name for _, name, _ in tree[1]])
            return [f"datatype {names}"]
        return [f"{'exception' if word == 'alias' else word} {tree[1]}"]


def _first_standing(inputs):
    """What stands ahead of all phrases."""
    play = Play(inputs)
    play.begin(())
    return Standing((), 0, begun_unit(Book(), {}), play, 0)


class Session:
    """Phrases that stand. All that was is kept, so that phrases can be taken back and given again."""

    def __init__(self, inputs=()):
        check_inputs(inputs)
        self._inputs = inputs
        # What stands behind 0, 1, .. phrases, and what was taken back, the next one to be given again last.
        self._state = ((_first_standing(inputs),), ())

    def _now(self):
        return self._state[0][-1]

    def phrase(self, text):
        """Give a phrase; the lines that answer it."""
        tree = _phrase_of(text)
        standings, _ = self._state
        before = standings[-1]
        after = before.behind(tree)
        self._state = ((*standings, after), ())
        return (*after.lines[len(before.lines):], *after.lines_of(tree))

    def asked(self, text):
        """The text of the scheme of an expression."""
        return self._now().asked(_value_of(text, read_expression(text)))

    @property
    def inputs(self):
        """The inputs."""
        return self._inputs

    @property
    def phrases(self):
        """The declarations that stand."""
        return self._state[0][-1].trees

    @property
    def program(self):
        """The program of the phrases."""
        return self._state[0][-1].typed

    @property
    def output(self):
        """All lines that were printed."""
        return self._state[0][-1].lines

    @property
    def reads(self):
        """How many inputs were read."""
        return self._state[0][-1].taken

    @property
    def names(self):
        """The ascending tuple of the values."""
        return tuple(self._state[0][-1].typed.face.schemes)

    def scheme_of(self, name):
        """The text of the scheme of a value."""
        if name not in self.names:
            raise UnknownName(name)
        program = self._now().typed
        return program.face.schemes[name].text(program.book)

    def text(self, name):
        """The text of a value."""
        if name not in self.names:
            raise UnknownName(name)
        return self._now().text_of(name)

    def undo(self, *, many=1):
        """Take the last phrases back; the texts of them, the first moved one ahead."""
        if not is_whole(many):
            raise InvalidNumber(many)
        standings, undone = self._state
        if many >= len(standings):
            raise NothingToUndo(many)
        left = len(standings) - many
        moved = standings[left:][::-1]
        self._state = (standings[:left], (*undone, *moved))
        return tuple([write_declaration(standing.trees[-1]) for standing in moved])

    def redo(self, *, many=1):
        """Give the phrases again that were taken back last; the texts of them, the first moved one ahead."""
        if not is_whole(many):
            raise InvalidNumber(many)
        standings, undone = self._state
        if many > len(undone):
            raise NothingToUndo(many)
        left = len(undone) - many
        moved = undone[left:][::-1]
        self._state = ((*standings, *moved), undone[:left])
        return tuple([write_declaration(standing.trees[-1]) for standing in moved])

    def during(self, call):
        """What a call with the session returns; then all is as before."""
        held = self._state
        try:
            return call(self)
        finally:
            self._state = held

    def twin(self):
        """An equal session with the same past that goes on by itself."""
        session = Session(self._inputs)
        session._state = self._state
        return session

    def __eq__(self, other):
        if not isinstance(other, Session) or self._inputs != other._inputs:
            return False
        return self._state[0][-1].trees == other._state[0][-1].trees

    def __len__(self):
        return len(self._state[0][-1].trees)

    def __str__(self):
        return f"session of {len(self._state[0][-1].trees)} phrases"
