"""Examples: values of types, and values that meet told patterns."""

from letquay.cases.values import is_int

# Values are looked for that are twice as deep each time; types of which all are deeper are not asked for.
DEEPEST = 512


class Examples:
    """Values of the types of some kinds, by numbers and by how deep they can be; `None` where there is none."""

    def __init__(self, kinds):
        self.kinds = kinds
        self.known = {}

    def of_kind(self, kind):
        """A value of a kind that is not deeper than it must be, up to twice."""
        deep = 1
        found = None
        while found is None and deep <= DEEPEST:
            found = self.value(kind, deep)
            deep = deep * 2
        return found

    def value(self, kind, deep):
        """A value of a kind with at most so many constructors one below the other, or None."""
        todo = [(kind, deep)]
        while todo:
            last, least = todo[-1]
            wanted, found = self._attempt(last, least)
            if wanted is None:
                self.known[todo.pop()] = found
            else:
                todo.append(wanted)
        return self.known[(kind, deep)]

    def _attempt(self, kind, deep):
        """The pair of what must be known ahead, or None, and of a value, or None if there is none."""
        sort = self.kinds.sort_of(kind)
        if sort == "tuple":
            return self._of_tuple(kind, deep)
        if sort == "data":
            return self._of_data(kind, deep)
        return None, {"int": 0, "string": ""}.get(sort, ("thing",))

    def _of_data(self, kind, deep):
        for name, under in self.kinds.constructors(kind).items():
            if under is None:
                return None, ("con", name, None)
            if deep > 1 and (under, deep - 1) not in self.known:
                return (under, deep - 1), None
            if deep > 1 and self.known[(under, deep - 1)] is not None:
                return None, ("con", name, self.known[(under, deep - 1)])
        return None, None

    def _of_tuple(self, kind, deep):
        members = []
        for member in self.kinds.members(kind):
            if (member, deep) not in self.known:
                return (member, deep), None
            if self.known[(member, deep)] is None:
                return None, None
            members.append(self.known[(member, deep)])
        return None, ("tuple", tuple(members))

    def met(self, kind, told):
        """A value of a kind that meets a told pattern, which fits it."""
        word = told[0]
        if word == "any":
            return self.of_kind(kind)
        if word in ("int", "string"):
            return told[1]
        if word == "but":
            numbers = [n for n in range(len(told[1]) + 1) if (n if is_int(told[1][0]) else str(n)) not in told[1]]
            return numbers[0] if is_int(told[1][0]) else str(numbers[0])
        if word == "but exceptions":
            return ("thing",)
        if word == "tuple":
            members = self.kinds.members(kind)
            return ("tuple", tuple([self.met(member, part) for member, part in zip(members, told[1])]))
        key = told[1] if self.kinds.sort_of(kind) == "exn" else told[1][0]
        inner = None if told[2] is None else self.met(self.kinds.under(kind, key), told[2])
        return ("exn" if self.kinds.sort_of(kind) == "exn" else "con", key, inner)
