"""Matching: whether a structure has what a signature wants."""

from letquay.checks import is_integer
from letquay.data.copies import renewed_stamps
from letquay.data.faces import is_maker
from letquay.data.looking import check_scope
from letquay.errors import InvalidFace, Refused, TooMany
from letquay.modules.signatures import Signed, item_at, same_makers, stamp_of
from letquay.types.shapes import MAX_SIZE, outline, with_makers
from letquay.types.terms import admits_with, check_book


def _check_signed(book, signed):
    if not isinstance(signed, Signed) or signed.greatest > len(book):
        raise InvalidFace("this is no signed face, or it has a stamp that the book has not")


def _same_carried(one, other):
    """Whether two types that are carried, or `None`, are equal."""
    if one is None or other is None:
        return one is None and other is None
    return outline(one) == outline(other)


class Matching:
    """A face that is matched to a signed face: the realization so far."""

    def __init__(self, book, found, signed):
        self.book = book
        self.found = found
        self.signed = signed
        self.makers = {}

    def put(self, T):
        """A wanted type with the realization put in."""
        result = None if T is None else with_makers(T, self.makers)
        if T is not None and result is None:
            raise TooMany(MAX_SIZE)
        return result

    def _item(self, kind, path):
        """The item that stands at a path, where nothing else may stand."""
        item = item_at(self.found, kind, path)
        if item is None:
            raise Refused(("lacks", kind, path))
        if item[0] != kind:
            raise Refused(("unlike", kind, path))
        return item[1]

    def run(self):
        """Match all items, in order."""
        for kind, path in self.signed.entries:
            if kind == "type":
                self._match_type(path)
            elif kind == "data":
                self._match_group(path)
            elif not self._is_like(kind, path, self._item(kind, path)):
                raise Refused(("unlike", kind, path))

    def _is_like(self, kind, path, item):
        """Whether an item that is no type is like the wanted one."""
        if kind == "structure":
            return True
        if kind == "exception":
            return _same_carried(item, self.put(self.signed.face.tag(path)[1]))
        wanted = self.signed.face.value(path).with_makers(self.makers)
        if wanted is None:
            raise TooMany(MAX_SIZE)
        return item.covers(self.book, wanted)

    def _is_free(self, stamp):
        """Whether a stamp is a bound one that the realization has not."""
        return stamp in self.signed.bound and stamp not in self.makers

    def _match_type(self, path):
        maker = self._item("type", path)
        wanted = self.signed.face.maker(path)
        stamp = stamp_of(wanted)
        if maker[0] != wanted[0]:
            raise Refused(("unlike", "type", path))
        if self._is_free(stamp):
            asked = self.book.asks(stamp) is not None
            if asked and not admits_with(self.book, maker[1], tuple(range(maker[0]))):
                raise Refused(("unlike", "type", path))
            self.makers[stamp] = maker
        elif not same_makers(maker, (wanted[0], self.put(wanted[1]))):
            raise Refused(("unlike", "type", path))

    def _match_group(self, paths):
        for path in paths:
            item = item_at(self.found, "data", path)
            if item is None:
                raise Refused(("lacks", "data", path))
            if not self._is_like_type(item[1], self.signed.face.maker(path)):
                raise Refused(("unlike", "data", path))
        for path in paths:
            own = stamp_of(self.found.maker(path))
            wanted = stamp_of(self.signed.face.maker(path))
            if not self._stand_beside(own, path) or not self._has_like_constructors(own, wanted):
                raise Refused(("unlike", "data", path))

    def _is_like_type(self, maker, wanted):
        """Whether a maker is that of a datatype like the wanted one, which comes into the realization."""
        own, stamp = stamp_of(maker), stamp_of(wanted)
        if own is None or self.book.constructors(own) is None or maker[0] != wanted[0]:
            return False
        if self._is_free(stamp):
            self.makers[stamp] = maker
            return True
        return same_makers(maker, (wanted[0], self.put(wanted[1])))

    def _stand_beside(self, stamp, path):
        """Whether all constructors of a stamp stand beside the type at a path."""
        for k, (name, _) in enumerate(self.book.constructors(stamp)):
            if item_at(self.found, "exception", (*path[:-1], name)) != ("constructor", (stamp, k)):
                return False
        return True

    def _has_like_constructors(self, own, wanted):
        """Whether a stamp has the constructors of a wanted one, in order, with equal argument types."""
        pairs, others = self.book.constructors(own), self.book.constructors(wanted)
        if [name for name, _ in pairs] != [name for name, _ in others]:
            return False
        return all([_same_carried(one, self.put(other)) for (_, one), (_, other) in zip(pairs, others)])


def realization_of(book, found, signed):
    """The realization with which a face matches."""
    matching = Matching(book, found, signed)
    matching.run()
    return {stamp: matching.makers[stamp] for stamp in sorted(matching.makers)}


def matched(book, found, signed):
    """The realization with which a face matches a signed face."""
    check_scope(book, found)
    _check_signed(book, signed)
    return realization_of(book, found, signed)


def _is_same_maker(value, maker):
    return is_maker(value) and same_makers(value, maker)


def is_matching(book, found, signed, value):
    """Whether the value is a realization with which a face matches a signed face."""
    check_scope(book, found)
    _check_signed(book, signed)
    try:
        makers = realization_of(book, found, signed)
    except Refused:
        return False
    if not isinstance(value, dict) or len(value) != len(makers):
        return False
    if not all([is_integer(stamp) and stamp in makers for stamp in value]):
        return False
    return all([_is_same_maker(value[stamp], makers[stamp]) for stamp in makers])


def fitted(book, found, signed):
    """The face that is fitted to a signed face."""
    check_scope(book, found)
    _check_signed(book, signed)
    return face_fitted(book, found, signed)


def face_fitted(book, found, signed):
    """What `fitted` tells, for what has been looked at already."""
    return signed.face.with_makers(realization_of(book, found, signed))


def sealed(book, found, signed):
    """The pair of the book with new stamps and of the sealed face."""
    check_scope(book, found)
    _check_signed(book, signed)
    return face_sealed(book, found, signed)


def face_sealed(book, found, signed):
    """What `sealed` tells, for what has been looked at already."""
    realization_of(book, found, signed)
    extended, makers = renewed_stamps(book, signed.bound)
    return extended, signed.face.with_makers(makers)


def is_below(book, one, other):
    """Whether one signed face is below another one."""
    check_book(book)
    _check_signed(book, one)
    _check_signed(book, other)
    extended, new = one.renewed(book)
    try:
        realization_of(extended, new.face, other)
    except Refused:
        return False
    return True
