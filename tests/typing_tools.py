"""Random types, and a second solver of demands, written in another way than that of the package."""

import random

from letquay.types.books import Book

INT = ("made", 1, ())
STRING = ("made", 2, ())
BOOL = ("made", 3, ())
EXN = ("made", 4, ())
UNIT = ("tuple", ())


def var(n):
    return ("var", n)


def list_of(T):
    return ("made", 5, (T,))


def ref_of(T):
    return ("made", 6, (T,))


def wide_book():
    """A book with a pair (7), which asks for the second alone, an abstract type (8), and one that never admits (9)."""
    rows = (("pair", 2, (1,), (("Pair", ("tuple", (ref_of(var(0)), var(1)))),)), ("abs", 1, (0,), None),
            ("dark", 0, None, None))
    return Book().with_stamps(rows)[0]


BOOK = wide_book()


def random_type(rng, deep, variables):
    which = rng.random()
    if deep <= 0 or which < 0.3:
        return rng.choice([var(n) for n in range(variables)] * 2 + [INT, STRING, UNIT, EXN, ("made", 9, ())])
    below = [random_type(rng, deep - 1, variables) for _ in range(2)]
    return rng.choice((
        ("fn", *below), ("tuple", tuple(below)), list_of(below[0]), ref_of(below[0]), ("made", 7, tuple(below)),
        ("made", 8, (below[0],))))


def parts(T):
    if T[0] == "var":
        return ()
    return T[1:] if T[0] == "fn" else T[-1]


def head(T):
    return (T[0], T[1] if T[0] == "made" else len(parts(T)))


def subterms(T):
    found = {T}
    for part in parts(T):
        found |= subterms(part)
    return found


def asked_parts(T):
    """The parts that must admit equality if T does, or None."""
    if T[0] == "tuple":
        return T[1]
    asks = None if T[0] == "fn" else BOOK.asks(T[1])
    return None if asks is None else tuple(T[2][k] for k in asks)


class Oracle:
    """Solves demands by classes of all terms that stand in them."""

    def __init__(self, demands, count, marked=()):
        self.terms = {var(n) for n in range(count)}
        pairs = [(d[2], d[3]) for d in demands if d[0] == "one"]
        for d in demands:
            for T in d[2:]:
                self.terms |= subterms(T)
        self.group = {T: {T} for T in self.terms}
        self.clash = not all(self.merge(T, U) for T, U in pairs)
        self.finite = not self.clash and self.is_finite()
        self.unequal = False
        if self.finite:
            self.musts = set()
            self.unequal = not all(
                [self.mark(T) for T in [var(n) for n in marked] + [d[2] for d in demands if d[0] == "equal"]])

    def merge(self, T, U):
        if self.group[T] is self.group[U]:
            return True
        one = next((t for t in self.group[T] if t[0] != "var"), None)
        other = next((t for t in self.group[U] if t[0] != "var"), None)
        whole = self.group[T] | self.group[U]
        for term in whole:
            self.group[term] = whole
        if one is None or other is None:
            return True
        if head(one) != head(other):
            return False
        return all([self.merge(a, b) for a, b in zip(parts(one), parts(other))])

    def made(self, T):
        """A term of the class of T that is no variable, or None."""
        return next((t for t in sorted(self.group[T], key=repr) if t[0] != "var"), None)

    def is_finite(self):
        left = {id(group): group for group in self.group.values()}
        while left:
            ready = []
            for key, group in left.items():
                made = next((t for t in group if t[0] != "var"), None)
                if made is None or not any(id(self.group[p]) in left for p in parts(made)):
                    ready.append(key)
            if not ready:
                return False
            for key in ready:
                del left[key]
        return True

    def mark(self, T):
        made = self.made(T)
        if made is None:
            self.musts.add(min(t[1] for t in self.group[T]))
            return True
        needed = asked_parts(made)
        return needed is not None and all([self.mark(p) for p in needed])

    def type_of(self, T):
        made = self.made(T)
        if made is None:
            return var(min(t[1] for t in self.group[T]))
        below = tuple(self.type_of(p) for p in parts(made))
        if made[0] == "fn":
            return ("fn", *below)
        return (*made[:-1], below)


def renamed(types):
    """Types renumbered together."""
    names = {}

    def rename(T):
        if T[0] == "var":
            return var(names.setdefault(T[1], len(names)))
        if T[0] == "fn":
            return ("fn", *[rename(p) for p in T[1:]])
        return (*T[:-1], tuple(rename(p) for p in T[-1]))
    return tuple(rename(T) for T in types)


def put_plain(T, types):
    """Types put in, in the plainest way."""
    if T[0] == "var":
        return types[T[1]]
    below = tuple(put_plain(p, types) for p in parts(T))
    return ("fn", *below) if T[0] == "fn" else (*T[:-1], below)


def size_plain(T):
    return 1 + sum(size_plain(p) for p in parts(T))


def chain(size):
    """A type of an odd size, deep to the right."""
    T = INT
    for _ in range((size - 1) // 2):
        T = ("fn", INT, T)
    return T


def sized(size):
    """A type of any size."""
    return chain(size) if size % 2 else list_of(chain(size - 1))


def sampler(seed):
    return random.Random(seed)
