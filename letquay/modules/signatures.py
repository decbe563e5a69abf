"""Signatures: what they mean."""

from letquay.checks import is_integer
from letquay.data.copies import copied_stamps, renewed_stamps
from letquay.data.faces import Face, is_maker, is_reserved_tag, is_reserved_type, maker_of
from letquay.data.looking import check_scope, group_declared, scheme_meant, type_meant
from letquay.errors import InvalidFace, InvalidOperation, InvalidTree, Refused, UnknownName
from letquay.modules.bases import SignedBase, behind
from letquay.modules.scopes import check_scope_of
from letquay.text.names import is_high_path, is_low_path, is_type_path
from letquay.text.trees import is_signature
from letquay.types.shapes import outline
from letquay.types.terms import admits_with, check_book

FIRST_FREE = 7


def same_makers(one, other):
    """Whether two makers are equal."""
    return one[0] == other[0] and outline(one[1]) == outline(other[1])


def stamp_of(maker):
    """The stamp of which this is the maker, or None if it is the maker of none."""
    if maker[1][0] != "made":
        return None
    return maker[1][1] if same_makers(maker, maker_of(maker[1][1], maker[0])) else None


def item_at(face, kind, path):
    """The pair of the kind and of the item of the name space of a kind to which a path leads, or None.

    Exceptions and constructors are one name space: a constructor has the kind "constructor".
    """
    try:
        if kind == "value":
            return kind, face.value(path)
        if kind == "structure":
            return kind, face.structure(path)
        if kind == "exception":
            tag = face.tag(path)
            return ("exception", tag[1]) if tag[0] == "exn" else ("constructor", tag[1:])
        return kind, face.maker(path)
    except UnknownName:
        return None


def _is_path_of(kind, path):
    if kind in ("type", "data"):
        return is_type_path(path)
    return is_low_path(path) if kind == "value" else is_high_path(path)


def _is_entry(book, face, value):
    """Whether the value is an item that a face has."""
    if not isinstance(value, tuple) or len(value) != 2 or not isinstance(value[0], str):
        return False
    kind, paths = value
    if kind not in ("type", "data", "exception", "value", "structure") or not isinstance(paths, tuple):
        return False
    if kind != "data":
        paths = (paths,)
    if len(paths) == 0 or not all([_is_path_of(kind, path) for path in paths]):
        return False
    items = [item_at(face, kind, path) for path in paths]
    if any([item is None or item[0] != kind for item in items]):
        return False
    return kind != "data" or all([_is_datatype(book, maker) for _, maker in items])


def _is_datatype(book, maker):
    stamp = stamp_of(maker)
    return stamp is not None and book.constructors(stamp) is not None


def _are_bound(book, value):
    if not isinstance(value, tuple):
        return False
    if not all([is_integer(stamp) and FIRST_FREE <= stamp <= len(book) for stamp in value]):
        return False
    return len(set(value)) == len(value)


class Signed(SignedBase):
    """What a signature means. It never changes."""

    def __init__(self, book, face, bound, entries):
        check_scope(book, face)
        if not _are_bound(book, bound):
            raise InvalidOperation("bound stamps are different ones from 7 on")
        if not isinstance(entries, tuple) or not all([_is_entry(book, face, entry) for entry in entries]):
            raise InvalidOperation("these are no items that the face has")
        self.greatest = max([face.greatest, *bound])
        self.face = face
        self.bound = bound
        self.entries = entries
        # Of the bound stamps: their arities, and which are those of datatypes.
        self._arities = {stamp: book.arity(stamp) for stamp in bound}
        self._data = {stamp: True for stamp in bound if book.constructors(stamp) is not None}

    def put(self, types):
        """The face with a realization put in."""
        if not isinstance(types, dict) or len(types) != len(self.bound):
            raise InvalidOperation("a realization is a dict from the bound stamps")
        for stamp in types:
            if not is_integer(stamp) or stamp not in self._arities:
                raise InvalidOperation("a realization is a dict from the bound stamps")
            maker = types[stamp]
            if not is_maker(maker) or maker[0] != self._arities[stamp]:
                raise InvalidOperation("a realization has makers with as many parameters")
            if stamp in self._data and stamp_of(maker) is None:
                raise InvalidOperation("a realization has makers of stamps for datatypes")
        return self.face.with_makers(types)

    def renewed(self, book):
        """The pair of the book with new stamps for the bound ones, and of the signed face with these."""
        check_book(book)
        if self.greatest > len(book):
            raise InvalidFace("the book lacks stamps of the signed face")
        extended, makers = renewed_stamps(book, self.bound)
        bound = tuple([stamp_of(makers[stamp]) for stamp in self.bound])
        return extended, Signed(extended, self.face.with_makers(makers), bound, self.entries)

    def __len__(self):
        return len(self.entries)

    def __eq__(self, other):
        if not isinstance(other, Signed) or self.face != other.face:
            return False
        return self.bound == other.bound and self.entries == other.entries


class Meaning:
    """What a part of a signature means: a face, the bound stamps, and the items."""

    def __init__(self, face, bound, entries):
        self.face = face
        self.bound = bound
        self.entries = entries


def _below(name, entries):
    """The items of a structure, as they are named outside of it."""
    found = []
    for kind, path in entries:
        longer = tuple([(name, *inner) for inner in path]) if kind == "data" else (name, *path)
        found.append((kind, longer))
    return found


class Sense:
    """Goes through a signature; `book` is that with all stamps so far."""

    def __init__(self, book):
        self.book = book

    def meaning(self, scope, tree, place):
        """The meaning of a signature, which stands at a place."""
        if tree[0] == "sig":
            return self._specifications(scope, tree[1], (*place, 1))
        if tree[0] == "where":
            return self._where(scope, tree, place)
        signed = scope.signatures.get(tree[1])
        if signed is None:
            raise Refused(("unbound", place, (tree[1],)))
        self.book, new = signed.renewed(self.book)
        return Meaning(new.face, new.bound, new.entries)

    def _specifications(self, scope, trees, place):
        whole = Meaning(Face(), (), ())
        for k, tree in enumerate(trees):
            meaning = self._specification(scope, tree, (*place, k))
            self._check_names(whole.face, meaning, (*place, k))
            face = whole.face.opened(meaning.face)
            whole = Meaning(face, (*whole.bound, *meaning.bound), (*whole.entries, *meaning.entries))
            scope = scope.opened(meaning.face)
        return whole

    def _declared_names(self, meaning):
        """The pairs (name space, name) of what a spec declares, in order."""
        found = []
        for kind, path in meaning.entries:
            if kind == "data" and len(path[0]) == 1:
                for inner in path:
                    stamp = stamp_of(meaning.face.maker(inner))
                    found.append(("type", inner[0]))
                    found.extend([("exception", name) for name, _ in self.book.constructors(stamp)])
            elif kind != "data" and len(path) == 1:
                found.append((kind, path[0]))
        return found

    def _check_names(self, face, meaning, place):
        """Refuse the first name of a spec that is reserved or stands in the signature already."""
        for kind, name in self._declared_names(meaning):
            reserved = kind == "type" and is_reserved_type(name) or kind == "exception" and is_reserved_tag(name)
            if reserved or item_at(face, kind, (name,)) is not None:
                raise Refused(("twice", place, name))

    def _specification(self, scope, tree, place):
        """The meaning of a spec, which stands at a place; that its names stand already is not looked at."""
        word = tree[0]
        if word == "include":
            return self.meaning(scope, tree[1], (*place, 1))
        if word == "structure":
            inner = self.meaning(scope, tree[2], (*place, 2))
            face = Face().with_structure(tree[1], inner.face)
            return Meaning(face, inner.bound, (("structure", (tree[1],)), *_below(tree[1], inner.entries)))
        if word == "type":
            return self._abstract(tree)
        try:
            return self._with_types(scope.face, tree)
        except Refused as refused:
            # The types of a spec stand behind its names, those of a group with it.
            at = 1 if word == "data" else len(tree) - 1
            raise Refused(behind(refused.reason, (*place, at))) from None

    def _abstract(self, tree):
        _, params, name, equal = tree
        many = len(params)
        self.book, stamps = self.book.with_stamps(((name, many, tuple(range(many)) if equal else None, None),))
        return Meaning(Face().with_type(name, maker_of(stamps[0], many)), stamps, (("type", (name,)),))

    def _with_types(self, seen, tree):
        word = tree[0]
        if word == "data":
            return self._group(seen, tree[1])
        if word == "val":
            face = Face().with_value(tree[1], scheme_meant(seen, tree[2]))
            return Meaning(face, (), (("value", (tree[1],)),))
        if word == "abbr":
            T = type_meant(seen, tree[3], tree[1])
            return Meaning(Face().with_known_type(tree[2], (len(tree[1]), T)), (), (("type", (tree[2],)),))
        carried = None if tree[2] is None else type_meant(seen, tree[2], ())
        return Meaning(Face().with_exception(tree[1], carried), (), (("exception", (tree[1],)),))

    def _group(self, seen, group):
        first = len(self.book)
        self.book, face = group_declared(self.book, seen, group)
        paths = tuple([(name,) for _, name, _ in group])
        return Meaning(face, tuple(range(first + 1, len(self.book) + 1)), (("data", paths),))

    def _where(self, scope, tree, place):
        _, inner, path, params, written = tree
        meaning = self.meaning(scope, inner, (*place, 1))
        found = item_at(meaning.face, "type", path)
        stamp = None if found is None else stamp_of(found[1])
        if stamp not in meaning.bound or self.book.constructors(stamp) is not None:
            raise Refused(("where", place, path))
        if len(params) != self.book.arity(stamp):
            raise Refused(("where", place, path))
        try:
            T = type_meant(scope.face, written, params)
        except Refused as refused:
            raise Refused(behind(refused.reason, (*place, 4))) from None
        if self.book.asks(stamp) is not None and not admits_with(self.book, T, tuple(range(len(params)))):
            raise Refused(("where", place, path))
        return self._with_maker(meaning, stamp, (len(params), T), place)

    def _carries(self, stamp, changed):
        """Whether a constructor of a stamp carries one of the changed stamps."""
        for _, T in self.book.constructors(stamp):
            if T is not None and any([part[0] == "made" and part[1] in changed for part in outline(T)]):
                return True
        return False

    def _with_maker(self, meaning, stamp, maker, place):
        """The meaning in which an abstract stamp is an abbreviation; groups that carry it have new stamps."""
        changed = {stamp: True}
        anew = []
        for kind, paths in meaning.entries:
            own = [stamp_of(meaning.face.maker(path)) for path in paths] if kind == "data" else []
            group = [each for each in own if each in meaning.bound]
            if any([self._carries(each, changed) for each in group]):
                changed.update({each: True for each in group})
                anew.extend(group)
        self.book, makers, empty = copied_stamps(self.book, anew, {stamp: maker})
        if empty:
            raise Refused(("empty", place, empty[0]))
        bound = [stamp_of(makers[each]) if each in makers else each for each in meaning.bound if each != stamp]
        return Meaning(meaning.face.with_makers(makers), tuple(bound), meaning.entries)


def signed_face(book, scope, tree):
    """The pair of the book with the new stamps and of the signed face of a signature."""
    check_scope_of(book, scope)
    if not is_signature(tree):
        raise InvalidTree("this is no signature")
    return signature_meant(book, scope, tree)


def signature_meant(book, scope, tree):
    """What `signed_face` tells, for what has been looked at already."""
    sense = Sense(book)
    meaning = sense.meaning(scope, tree, ())
    return sense.book, Signed(sense.book, meaning.face, meaning.bound, meaning.entries)


def _is_beside(book, tags, maker):
    """Whether a maker is that of a datatype, all constructors of which are among some tags."""
    if not _is_datatype(book, maker):
        return False
    stamp = stamp_of(maker)
    return all([tags.get(name) == (stamp, k) for k, (name, _) in enumerate(book.constructors(stamp))])


def _bare_entries(book, face):
    """The items of a face, ascending, those of structures behind them."""
    found = []
    tags = face.tags
    for name, maker in face.types.items():
        found.append(("data", ((name,),)) if _is_beside(book, tags, maker) else ("type", (name,)))
    found.extend([("exception", (name,)) for name in face.exceptions])
    found.extend([("structure", (name,)) for name in face.structures])
    found.extend([("value", (name,)) for name in face.schemes])
    entries = []
    for kind, path in sorted(found):
        entries.append((kind, path))
        if kind == "structure":
            entries.extend(_below(path[0], _bare_entries(book, face.structures[path[0]])))
    return entries


def bare(book, face):
    """The least signed face of a face."""
    check_scope(book, face)
    return Signed(book, face, (), tuple(_bare_entries(book, face)))
