"""Units: what they are, their faces, and compiling them apart."""

from letquay.code.making import code_of
from letquay.errors import InvalidFace, InvalidUnit
from letquay.modules.flatten import flattened
from letquay.modules.programs import typed_unit
from letquay.text.names import is_high
from letquay.text.trees import is_signature, is_unit, nodes_in
from letquay.types.books import Book
from letquay.units.canonical import MANY_FIRST, canonical_of, makers_to, moved_row, stamps_of

MAX_UNITS = 8


def _are_uses(name, value):
    """Whether the value is a tuple of different high names, at most seven, without this one."""
    if not isinstance(value, tuple) or len(value) >= MAX_UNITS or not all([is_high(used) for used in value]):
        return False
    return len(set(value)) == len(value) and name not in value


class Unit:
    """A unit: its name, the names of the units that it uses, its declarations, and a signature or none."""

    def __init__(self, name, uses, declarations, *, signature=None):
        if not is_high(name) or not _are_uses(name, uses):
            raise InvalidUnit("a unit has a high name, and uses at most seven others")
        if not is_unit(declarations) or signature is not None and not is_signature(signature):
            raise InvalidUnit("a unit has declarations, and a signature or none")
        self.name = name
        self._uses = uses
        self.declarations = declarations
        self.signature = signature
        self.nodes = nodes_in(declarations) + (0 if signature is None else nodes_in(signature))

    @property
    def uses(self):
        """The names of the units that it uses."""
        return self._uses

    def with_declarations(self, declarations):
        """The unit with other declarations."""
        return Unit(self.name, self._uses, declarations, signature=self.signature)

    def with_signature(self, signature):
        """The unit with another signature, or none."""
        return Unit(self.name, self._uses, self.declarations, signature=signature)

    def __eq__(self, other):
        if not isinstance(other, Unit) or self.name != other.name or self._uses != other._uses:
            return False
        return self.declarations == other.declarations and self.signature == other.signature

    def __str__(self):
        return f"unit {self.name}: {len(self.declarations)} declarations, {len(self._uses)} uses"


class UnitFace:
    """A face that is told independently of other units. It never changes."""

    def __init__(self, face, book, origins):
        self.face = face
        self.book = book
        self.origins = origins

    def __eq__(self, other):
        if not isinstance(other, UnitFace) or self.origins != other.origins:
            return False
        return self.book == other.book and self.face == other.face

    def __len__(self):
        return len(self.face)


class Compiled:
    """A unit that has been compiled. It never changes."""

    def __init__(self, unit, face, faces, program, code):
        self.unit = unit
        self.face = face
        self._faces = faces
        self._program = program
        self.code = code

    @property
    def program(self):
        """The typed program."""
        return self._program

    @property
    def faces(self):
        """The unit faces of its uses, with which it was compiled, by names."""
        return dict(self._faces)

    def __eq__(self, other):
        if not isinstance(other, Compiled) or self.unit != other.unit:
            return False
        return self.face == other.face and self._faces == other._faces


class Used:
    """The book and the faces of used units, in which one stamp stands for each origin."""

    def __init__(self):
        self.numbers = {}
        self.rows = []
        self.outer_faces = {}

    def add(self, name, unit_face):
        """Add the face of a unit: an error if it tells an origin unlike one ahead."""
        numbers = {}
        for k, origin in enumerate(unit_face.origins):
            numbers[MANY_FIRST + 1 + k] = self.numbers.setdefault(origin, MANY_FIRST + 1 + len(self.numbers))
        makers = makers_to(unit_face.book, numbers)
        for stamp, number in numbers.items():
            row = moved_row(unit_face.book, stamp, makers)
            if number > MANY_FIRST + len(self.rows):
                self.rows.append(row)
            elif row != self.rows[number - MANY_FIRST - 1]:
                raise InvalidFace("faces of units tell one origin unlike")
        self.outer_faces[name] = unit_face.face.with_makers(makers)

    def origins_by_stamps(self):
        """The dict of the origins by stamps."""
        return {number: origin for origin, number in self.numbers.items()}


def _used_by(unit, faces):
    """The uses of a unit: an error if it is none, or the faces are wrong."""
    if not isinstance(unit, Unit):
        raise InvalidUnit("this is no unit")
    if not isinstance(faces, dict):
        raise InvalidFace("faces are a dict from high names to unit faces")
    for name, face in faces.items():
        if not is_high(name) or not isinstance(face, UnitFace):
            raise InvalidFace("faces are a dict from high names to unit faces")
    if not all([name in faces for name in unit.uses]):
        raise InvalidFace("the face of a used unit lacks")
    used = Used()
    for name in unit.uses:
        if any([origin[0] == unit.name for origin in faces[name].origins]):
            raise InvalidFace("a used unit tells of a stamp that the unit itself makes")
        used.add(name, faces[name])
    return used


def _typed(unit, used):
    """The program of a unit."""
    book = Book().with_stamps(tuple(used.rows))[0]
    return typed_unit(unit.declarations, signature=unit.signature, book=book, uses=used.outer_faces)


def _face_of(unit, program, used):
    """The unit face of a typed unit."""
    stamps = stamps_of(program.book, program.face)
    book, face = canonical_of(program.book, program.face, stamps)
    known = used.origins_by_stamps()
    origins = []
    made = 0
    for stamp in stamps:
        if stamp in known:
            origins.append(known[stamp])
        else:
            origins.append((unit.name, made))
            made += 1
    return UnitFace(face, book, tuple(origins))


def face_of_unit(unit, faces):
    """The unit face of a unit."""
    used = _used_by(unit, faces)
    return _face_of(unit, _typed(unit, used), used)


def compiled_unit(unit, faces):
    """The compiled unit."""
    used = _used_by(unit, faces)
    program = _typed(unit, used)
    code = code_of(flattened(program), tuple(sorted(unit.uses)))
    outer_faces = {name: faces[name] for name in sorted(unit.uses)}
    return Compiled(unit, _face_of(unit, program, used), outer_faces, program, code)
