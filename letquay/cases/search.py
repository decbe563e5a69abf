"""The search for values that no row meets, column by column.

A state is a tuple of columns, pairs (place, kind), of the rows that are left, pairs (index, number of its entries that
are met already), and of the told patterns so far, written one behind the other. The first column tells all others, as
they come in order; so a state from which nothing was found is known by its place and its rows.
"""

ANY = ("any",)


class Search:
    """A search in which rows are dicts of entries; `only` has the entries that all values must meet."""

    def __init__(self, kinds, rows, only):
        self.kinds = kinds
        self.rows = rows
        self.only = only
        self.dead = {}
        self.found = []

    def run(self, kind, most):
        """The list of what is told of the values of a kind that no row meets, at most so many and one more."""
        rows = tuple([(index, 0) for index in range(len(self.rows))])
        todo = [((((), kind),), rows, ())]
        while todo and len(self.found) <= most:
            state = todo.pop()
            if len(state) == 2:
                key, before = state
                if before == len(self.found):
                    self.dead[key] = True
                continue
            columns, alive, told = state
            if not alive:
                self.found.append((*told, *[ANY for _ in columns]))
                continue
            if any([met == len(self.rows[index]) for index, met in alive]):
                continue
            key = (columns[0][0], alive)
            if key not in self.dead:
                todo.append((key, len(self.found)))
                todo.extend(self._states(columns, alive, told)[::-1])
        return self.found

    def _states(self, columns, alive, told):
        """The states behind one, in order."""
        place, kind = columns[0]
        rest = columns[1:]
        entries = [self.rows[index].get(place) for index, _ in alive]
        if all([entry is None for entry in entries]):
            return [(rest, alive, (*told, ANY))]
        if self.kinds.sort_of(kind) == "tuple":
            members = self.kinds.members(kind)
            inside = tuple([((*place, k), member) for k, member in enumerate(members)])
            left = [(index, met if entry is None else met + 1) for (index, met), entry in zip(alive, entries)]
            return [((*inside, *rest), tuple(left), (*told, ("tuple", len(members))))]
        heads = {}
        for entry in entries:
            if entry is not None:
                keys = (entry[1],) if entry[0] == "is" else entry[1]
                heads.update({key: True for key in keys})
        if self.kinds.sort_of(kind) == "data":
            return self._states_of_data(columns, alive, told, heads)
        return self._states_of_literals(columns, alive, told, heads)

    def _is_let(self, place, key):
        """Whether values with a key at a place are looked for."""
        entry = self.only.get(place)
        if entry is None:
            return True
        return key == entry[1] if entry[0] == "is" else key not in entry[1]

    def _left(self, alive, place, key):
        """The rows that are left where a key, or `None` for one that no row has, is found at a place."""
        found = []
        for index, met in alive:
            entry = self.rows[index].get(place)
            if entry is None:
                found.append((index, met))
            elif entry[0] == "but" and (key is None or key not in entry[1]) or entry[0] == "is" and key == entry[1]:
                found.append((index, met + 1))
        return tuple(found)

    def _under_head(self, columns, alive, told, key):
        """The state where a head is found; what it carries is the next column."""
        place, kind = columns[0]
        left = self._left(alive, place, key)
        sort = self.kinds.sort_of(kind)
        if sort in ("int", "string"):
            return columns[1:], left, (*told, (sort, key))
        under = self.kinds.under(kind, key)
        path = key if sort == "exn" else (key,)
        if under is None:
            return columns[1:], left, (*told, ("con", path, 0))
        return (((*place, key), under), *columns[1:]), left, (*told, ("con", path, 1))

    def _states_of_data(self, columns, alive, told, heads):
        place, kind = columns[0]
        found = []
        for name, under in self.kinds.constructors(kind).items():
            if not self._is_let(place, name):
                continue
            if name in heads:
                found.append(self._under_head(columns, alive, told, name))
            else:
                own = [("con", (name,), 0)] if under is None else [("con", (name,), 1), ANY]
                found.append((columns[1:], self._left(alive, place, None), (*told, *own)))
        return found

    def _states_of_literals(self, columns, alive, told, heads):
        place, kind = columns[0]
        keys = sorted(heads)
        found = [self._under_head(columns, alive, told, key) for key in keys if self._is_let(place, key)]
        entry = self.only.get(place)
        if entry is None or entry[0] == "but" or entry[1] not in heads:
            word = "but exceptions" if self.kinds.sort_of(kind) == "exn" else "but"
            left = self._left(alive, place, None)
            found.append((columns[1:], left, (*told, (word, tuple(keys)))))
        return found


def is_found(kinds, kind, rows, only):
    """Whether some value of a kind meets the entries of `only`, but no row."""
    return len(Search(kinds, rows, only).run(kind, 0)) > 0


def told_pattern(told):
    """The told pattern that is written one behind the other."""
    done = []
    for token in told[::-1]:
        if token[0] == "tuple":
            parts = tuple(done[::-1][:token[1]])
            del done[len(done) - token[1]:]
            done.append(("tuple", parts))
        elif token[0] == "con":
            done.append((*token[:2], done.pop() if token[2] else None))
        else:
            done.append(token)
    return done[0]
