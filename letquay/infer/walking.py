"""Walking through an expression: all demands on the types of its nodes, one after the other.

The types are nodes of a graph. A walk notes the node of each expression and pattern, what is put in where, which
variables are generalized, and the rows of all matches.
"""

from letquay.infer.parts import ROWS_AT, cases_of, is_final_tree, pattern_parts
from letquay.types.graphs import Graph, check_size, demand_one

INT = ("made", 1, ())
STRING = ("made", 2, ())
BOOL = ("made", 3, ())
EXN = ("made", 4, ())
UNIT = ("tuple", ())
VARIABLE = ("var", 0)
REFERENCE = ("made", 6, (VARIABLE,))

# The types of the operands, and of the result behind them. Where a variable stands in them, it is a new one.
OPERATIONS = {
    "+": (INT, INT, INT), "-": (INT, INT, INT), "*": (INT, INT, INT), "div": (INT, INT, INT), "mod": (INT, INT, INT),
    "<": (INT, INT, BOOL), "^": (STRING, STRING, STRING), "text": (INT, STRING), "print": (STRING, UNIT),
    "read": (UNIT, INT), "=": (VARIABLE, VARIABLE, BOOL), "ref": (VARIABLE, REFERENCE), "!": (REFERENCE, VARIABLE),
    ":=": (REFERENCE, VARIABLE, UNIT),
}
GENERAL_OPERATIONS = ("=", "ref", "!", ":=")


class Local:
    """A local name: the node of its type, and the pairs (number, root) of its generalized variables, ascending."""

    def __init__(self, node, general):
        self.node = node
        self.general = general


class Walk:
    """The demands of a tree. Where they are `told`, each is kept with the types that those ahead of it give."""

    def __init__(self, book, found, told):
        self.book = book
        self.found = found
        self.told = told
        self.graph = Graph(book)
        self.variables = []
        self.told_demands = []
        # By places: the nodes of expressions and patterns; for names and constructors the pairs (number of the
        # variable of the name or None, node that is put in); for let and letrec the roots that are generalized.
        self.nodes = {}
        self.put_in = {}
        self.general = {}
        # The triples (place, node, rows) of all matches.
        self.cases = []

    def fresh(self, marked):
        """The node of a new variable."""
        node = self.graph.add_variable(len(self.variables), marked)
        self.variables.append(node)
        return node

    def plain(self, T, nodes):
        """The node of a type, with these nodes for its variables."""
        return self.graph.add_type(T, nodes)

    def function(self, one, other):
        """The node of the type of a function."""
        return self.graph.add_made("fn", 2, (one, other))

    def demand(self, place, one, other):
        """Demand that two nodes are one."""
        if self.told:
            check_size(self.graph, one)
            check_size(self.graph, other)
            self.told_demands.append(("one", place, self.graph.type_at(one), self.graph.type_at(other)))
        demand_one(self.graph, place, one, other)

    def note(self, place, node):
        """Note the node of an expression or a pattern."""
        check_size(self.graph, node)
        self.nodes[place] = node
        return node

    def instance(self, place, local):
        """The node of a local name, with new variables in the place of its generalized ones."""
        check_size(self.graph, local.node)
        self.put_in[place] = []
        if not local.general:
            return local.node
        images = {}
        for number, root in local.general:
            images[root] = self.fresh(self.graph.free_and_marked(root))
            self.put_in[place].append((number, images[root]))
        return self.graph.instance_of(local.node, images)

    def generalized(self, place, bound, names):
        """The locals for bound nodes, which see some names: what no name has that can be seen is generalized."""
        kept = {}
        for local in list(names.values()):
            own = [root for _, root in local.general]
            for root in self.graph.variables_below(local.node):
                if root not in own:
                    kept[root] = True
        found = {}
        general = {}
        for name, node in bound.items():
            below = self.graph.variables_below(node)
            found[name] = Local(node, sorted([(number, root) for root, number in below.items() if root not in kept]))
            general.update({root: True for _, root in found[name].general})
        self.general[place] = list(general)
        return found


def unlike(bound):
    """The locals for bound nodes without generalized variables."""
    return {name: Local(node, []) for name, node in bound.items()}


def _con_nodes(walk, place):
    """The pair of the node of the type of a constructor or exception, and of what it carries or None."""
    kind, *rest = walk.found[place]
    if kind == "exn":
        walk.put_in[place] = []
        return walk.plain(EXN, {}), None if rest[0] is None else walk.plain(rest[0], {})
    stamp, index = rest
    params = [walk.fresh(False) for _ in range(walk.book.arity(stamp))]
    walk.put_in[place] = [(None, node) for node in params]
    carried = walk.book.constructors(stamp)[index][1]
    own = walk.graph.add_made("made", stamp, tuple(params))
    return own, None if carried is None else walk.plain(carried, params)


def _pattern_con(walk, tree, place, bound):
    own, carried = _con_nodes(walk, place)
    if tree[2] is not None:
        part = pattern(walk, tree[2], (*place, 2), bound)
        walk.demand((*place, 2), carried, part)
    return own


def _pattern_or(walk, tree, place, bound):
    one, other = {}, {}
    left = pattern(walk, tree[1], (*place, 1), one)
    right = pattern(walk, tree[2], (*place, 2), other)
    walk.demand((*place, 2), left, right)
    for name in sorted(one):
        walk.demand((*place, 2), one[name], other[name])
    bound.update(one)
    return left


def pattern(walk, tree, place, bound):
    """The node of a pattern; the nodes of the names that it binds come into a dict."""
    word = tree[0]
    if word == "con":
        node = _pattern_con(walk, tree, place, bound)
    elif word == "or":
        node = _pattern_or(walk, tree, place, bound)
    elif word in ("int", "string"):
        node = walk.plain(INT if word == "int" else STRING, {})
    elif word in ("any", "name"):
        node = walk.fresh(False)
    else:
        parts = [pattern(walk, part, (*place, *steps), bound) for steps, part in pattern_parts(tree)]
        node = parts[0] if word == "as" else walk.graph.add_made("tuple", len(parts), tuple(parts))
    if word in ("name", "as"):
        bound[tree[1]] = node
    return walk.note(place, node)


def rows_between(walk, rows, place, one, other, names):
    """The demands of rows, which stand at a place, from one node to another one."""
    for k, (head, guard, body) in enumerate(rows):
        bound = {}
        node = pattern(walk, head, (*place, k, 0), bound)
        walk.demand((*place, k, 0), one, node)
        inner = {**names, **unlike(bound)}
        if guard is not None:
            node = expression(walk, guard, (*place, k, 1), inner)
            walk.demand((*place, k, 1), walk.plain(BOOL, {}), node)
        node = expression(walk, body, (*place, k, 2), inner)
        walk.demand((*place, k, 2), other, node)


def functions_of(walk, functions, place, names):
    """The demands of functions, which stand at a place, and the dict of their nodes by names."""
    bound = {name: walk.fresh(False) for name, _ in functions}
    inner = {**names, **unlike(bound)}
    for k, (name, rows) in enumerate(functions):
        one, other = walk.fresh(False), walk.fresh(False)
        walk.cases.append(((*place, k), one, cases_of(rows)))
        rows_between(walk, rows, (*place, k, 1), one, other, inner)
        walk.demand((*place, k), bound[name], walk.function(one, other))
    for node in list(bound.values()):
        check_size(walk.graph, node)
    return bound


def bound_by(walk, head, body, place, names):
    """The demands of a pattern, at the place with 1 behind it, and of an expression, at 2; and what is bound."""
    one = expression(walk, body, (*place, 2), names)
    bound = {}
    other = pattern(walk, head, (*place, 1), bound)
    walk.cases.append((place, one, ((head, False),)))
    walk.demand((*place, 1), one, other)
    for node in list(bound.values()):
        check_size(walk.graph, node)
    return bound


def _let(walk, tree, place, names):
    bound = bound_by(walk, tree[1], tree[2], place, names)
    walk.general[place] = []
    more = walk.generalized(place, bound, names) if is_final_tree(tree[2]) else unlike(bound)
    return expression(walk, tree[3], (*place, 3), {**names, **more})


def _letrec(walk, tree, place, names):
    bound = functions_of(walk, tree[1], (*place, 1), names)
    more = walk.generalized(place, bound, names)
    return expression(walk, tree[2], (*place, 2), {**names, **more})


def _literal(walk, tree, place, names):
    return walk.plain(INT if tree[0] == "int" else STRING, {})


def _name(walk, tree, place, names):
    path = tree[1]
    if len(path) == 1 and path[0] in names:
        return walk.instance(place, names[path[0]])
    scheme = walk.found[place]
    nodes = [walk.fresh(number in scheme.marks) for number in range(scheme.total)]
    walk.put_in[place] = [(None, node) for node in nodes]
    return walk.plain(scheme.body, nodes)


def _con(walk, tree, place, names):
    own, carried = _con_nodes(walk, place)
    return own if carried is None else walk.function(carried, own)


def _tuple(walk, tree, place, names):
    parts = [expression(walk, part, (*place, 1, k), names) for k, part in enumerate(tree[1])]
    return walk.graph.add_made("tuple", len(parts), tuple(parts))


def _call(walk, tree, place, names):
    one = expression(walk, tree[1], (*place, 1), names)
    other = expression(walk, tree[2], (*place, 2), names)
    result = walk.fresh(False)
    walk.demand(place, one, walk.function(other, result))
    return result


def _with_rows(walk, tree, place, names):
    word = tree[0]
    result = None if word == "fn" else expression(walk, tree[1], (*place, 1), names)
    one = walk.fresh(False) if word == "fn" else result
    if word == "handle":
        one = walk.plain(EXN, {})
    other = result if word == "handle" else walk.fresh(False)
    at = ROWS_AT[word]
    walk.cases.append((place, one, cases_of(tree[at])))
    rows_between(walk, tree[at], (*place, at), one, other, names)
    return walk.function(one, other) if word == "fn" else other


def _truth(walk, tree, place, names):
    """Demand that an expression is a truth."""
    node = expression(walk, tree, place, names)
    walk.demand(place, walk.plain(BOOL, {}), node)


def _if(walk, tree, place, names):
    _truth(walk, tree[1], (*place, 1), names)
    one = expression(walk, tree[2], (*place, 2), names)
    other = expression(walk, tree[3], (*place, 3), names)
    walk.demand((*place, 3), one, other)
    return one


def _raise(walk, tree, place, names):
    node = expression(walk, tree[1], (*place, 1), names)
    walk.demand((*place, 1), walk.plain(EXN, {}), node)
    return walk.fresh(False)


def _then(walk, tree, place, names):
    expression(walk, tree[1], (*place, 1), names)
    return expression(walk, tree[2], (*place, 2), names)


def _while(walk, tree, place, names):
    _truth(walk, tree[1], (*place, 1), names)
    expression(walk, tree[2], (*place, 2), names)
    return walk.plain(UNIT, {})


def _logic(walk, tree, place, names):
    _truth(walk, tree[1], (*place, 1), names)
    _truth(walk, tree[2], (*place, 2), names)
    return walk.plain(BOOL, {})


def _typed(walk, tree, place, names):
    node = expression(walk, tree[1], (*place, 1), names)
    inner = (*place, 2)
    wanted = walk.plain(walk.found[inner], {})
    walk.demand((*place, 1), wanted, node)
    return wanted


def _op(walk, tree, place, names):
    word = tree[1]
    nodes = [walk.fresh(word == "=")] if word in GENERAL_OPERATIONS else []
    *operands, result = OPERATIONS[word]
    for k, (T, part) in enumerate(zip(operands, tree[2])):
        node = expression(walk, part, (*place, 2, k), names)
        walk.demand((*place, 2, k), walk.plain(T, nodes), node)
    return walk.plain(result, nodes)


STEPS = {
    "int": _literal, "string": _literal, "name": _name, "con": _con, "tuple": _tuple, "fn": _with_rows, "call": _call,
    "let": _let, "letrec": _letrec, "case": _with_rows, "if": _if, "raise": _raise, "handle": _with_rows,
    "then": _then, "while": _while, "both": _logic, "either": _logic, "typed": _typed, "op": _op,
}


def expression(walk, tree, place, names):
    """The node of an expression, behind all its demands; `names` has the locals that it can see."""
    step = STEPS[tree[0]]
    return walk.note(place, step(walk, tree, place, names))
