"""What is known of tables while code is made: whether they have more fields than they are to have.

Signatures that name others can have far more items than a unit has nodes, and tables are cut to them in one step of the
rules. So a table is cut only where it is handed on as a whole; whatever is asked for its fields alone stays as it is.
"""

# What a term is picked by stands in the pair and in the fields of a `let` like this one.
PICKED = ("name", ("structure", "It"))


class Loose:
    """A table that can have more fields than its own keys, as the loose tables inside of it can."""

    def __init__(self, own_keys, inside):
        self.own_keys = own_keys
        self.inside = inside


def at_key(table, key):
    """What is known of the field of a loose table, or of one that is not (`None`)."""
    return None if table is None else table.inside.get(key)


def loose_table(fields):
    """The loose table of what has these fields picked, or None if they are no such fields."""
    inside = {}
    for key, worth in fields:
        term = ("field", PICKED, key)
        if key[0] == "structure":
            pick = pick_of(worth)
            if pick is None or pick[0] != term:
                return None
            inside[key] = pick[1]
        elif worth != term:
            return None
    return Loose(tuple([key for key, _ in fields]), inside)


def pick_of(core):
    """The pair of the term that is picked and of the loose table that it then is, or None for another term."""
    if core[0] != "let" or len(core[1]) > 1 or core[1][0][0] != PICKED or core[2][0] != "table":
        return None
    table = loose_table(core[2][1])
    return None if table is None else (core[1][0][1], table)


def _applied(part):
    """The pair of the key of a functor and of its argument, or None for what is no call of one."""
    if len(part) != 3 or part[0] != "call" or part[1][0] != "name" or part[1][1][0] != "functor":
        return None
    return part[1][1], part[2]


class Applications:
    """How often the keys of functors stand in a term, and to what fields their arguments are picked."""

    def __init__(self, core):
        self.standing = {}
        self.alike = {}
        self.fields = {}
        todo = [core]
        while todo:
            part = todo.pop()
            if len(part) == 2 and part[0] == "functor":
                self.standing[part] = self.standing.get(part, 0) + 1
            elif part and part[0] == "call":
                self._add_call(_applied(part))
            todo.extend([inner for inner in part if isinstance(inner, tuple)])

    def _add_call(self, call):
        if call is None or pick_of(call[1]) is None:
            return
        key, argument = call
        fields = argument[2][1]
        if self.fields.setdefault(key, fields) == fields:
            self.alike[key] = self.alike.get(key, 0) + 1

    def known_parameters(self):
        """What is known of the parameters of functors, of those that are bound once and nothing but applied so."""
        return {
            key: loose_table(self.fields[key]) if key in self.fields else None
            for key, many in self.standing.items() if many == 1 + self.alike.get(key, 0)}


def parameter_of(pair):
    """The pair of the key of a parameter and of the body of a functor that a pair of a `let` binds, or `None`."""
    head, body = pair
    if head[0] != "name" or head[1][0] != "functor" or body[0] != "fn" or len(body[1]) > 1:
        return None
    name, guard, inner = body[1][0]
    return None if name[0] != "name" or guard is not None else (name[1], inner)


def is_path(core):
    """Whether a term is a name, a field of a name, or of such a field."""
    while core[0] == "field":
        core = core[1]
    return core[0] == "name"


def opened_by(pair):
    """The pair of a path and of the list of the keys that a pair of a `let` names like fields of it, or `None`."""
    head, body = pair
    names, fields = (head,), (body,)
    if head[0] == "tuple" and body[0] == "tuple":
        names, fields = head[1], body[1]
    if len(names) != len(fields) or not fields or fields[0][0] != "field" or not is_path(fields[0][1]):
        return None
    path = fields[0][1]
    if any([name[0] != "name" or field != ("field", path, name[1]) for name, field in zip(names, fields)]):
        return None
    return path, [name[1] for name in names]


def paths_in(pattern):
    """The list of the paths of all exceptions in a pattern, but for reserved ones."""
    found = []
    todo = [pattern]
    while todo:
        part = todo.pop()
        if part[0] == "packet" and part[1][0] != "reserved":
            found.append(part[1])
        if part[0] == "tuple":
            todo.extend(part[1])
        elif part[0] == "or":
            todo.extend(part[1:])
        elif part[0] in ("as", "con", "packet") and part[2] is not None:
            todo.append(part[2])
    return found


def _length(way):
    return len(way[1])


def shared_ways(places):
    """The list of the ways (root, keys) at whose ends several of some places end, or part; the shortest first."""
    many = {}
    for root, keys, _ in places:
        for k in range(1, len(keys) + 1):
            way = (root, keys[:k])
            many[way] = many.get(way, 0) + 1
    shared = {way: True for way, times in many.items() if times > 1}
    for (root, keys), times in many.items():
        ahead = (root, keys[:-1])
        if ahead in shared and many[ahead] == times:
            del shared[ahead]
    return sorted(shared, key=_length)
