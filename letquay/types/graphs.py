"""Graphs: types that become one, step by step, with all that is needed to take steps back.

A node is a tuple (link, head, parts, least, must, weight). Nodes that are one are linked to one of them, their
root, which tells about all of them: the head is `None` for a variable; parts are nodes; `least` is the least number
of a variable among them, or `None`; `must` tells whether they must admit equality, and that this is known of the
parts as well. Nodes are never changed but replaced, so that the old one can be kept for taking the step back.
"""

from letquay.errors import Refused, TooMany
from letquay.types.shapes import MAX_SIZE, children, numbered, replaced, variables_in, with_children

MUST = 4


def _head_of(T):
    """What two types must have alike to become one, but for their parts."""
    return (T[0], T[1] if T[0] == "made" else len(children(T)))


def _least_of(one, other):
    """The least of two numbers, either of which can be `None`."""
    if one is None or other is None:
        return other if one is None else one
    return min(one, other)


class Graph:
    """Types of a book, as nodes."""

    def __init__(self, book):
        self.book = book
        self.nodes = []
        self.replaced = []

    def copied(self):
        """An equal graph that goes on by itself."""
        graph = Graph(self.book)
        graph.nodes = list(self.nodes)
        graph.replaced = list(self.replaced)
        return graph

    def moment(self):
        """What `back` needs to come back to the graph as it is now."""
        return len(self.nodes), len(self.replaced)

    def back(self, moment):
        """Take back all that has come behind a moment."""
        nodes, changes = moment
        while len(self.replaced) > changes:
            index, node = self.replaced.pop()
            self.nodes[index] = node
        del self.nodes[nodes:]

    def _replace(self, index, node):
        self.replaced.append((index, self.nodes[index]))
        self.nodes[index] = node

    def _add(self, head, parts, least, must):
        index = len(self.nodes)
        self.nodes.append((index, head, parts, least, must, 1))
        return index

    def add_variable(self, number, must):
        """The node of a new variable."""
        return self._add(None, (), number, must)

    def add_made(self, word, own, parts):
        """The node of a type of other nodes: with a stamp of its own, or else the number of the parts."""
        return self._add((word, own), parts, None, False)

    def add_type(self, T, variables):
        """The node of a type, where the variable n is the node `variables[n]`."""
        done = []
        todo = [(T, False)]
        while todo:
            part, ready = todo.pop()
            if part[0] == "var":
                done.append(variables[part[1]])
            elif ready:
                first = len(done) - len(children(part))
                parts = tuple(done[first:])
                del done[first:]
                done.append(self._add(_head_of(part), parts, None, False))
            else:
                todo.append((part, True))
                todo.extend([(inner, False) for inner in children(part)[::-1]])
        return done[0]

    def instance_of(self, start, images):
        """The node of the type of a node with other nodes for some variables, a dict by roots; all else is shared."""
        done = dict(images)
        todo = [self.root(start)]
        while todo:
            index = todo[-1]
            if index not in done:
                _, head, parts, _, _, _ = self.nodes[index]
                roots = [self.root(part) for part in parts]
                left = [part for part in roots if part not in done]
                if left:
                    todo.extend(left)
                    continue
                others = [done[part] for part in roots]
                done[index] = index if others == roots else self._add(head, tuple(others), None, False)
            todo.pop()
        return done[index]

    def root(self, index):
        """The node that tells about a node."""
        while self.nodes[index][0] != index:
            index = self.nodes[index][0]
        return index

    def _join(self, one, other):
        """Let two roots become one, and return it."""
        if self.nodes[one][5] < self.nodes[other][5]:
            one, other = other, one
        _, head, parts, least, must, weight = self.nodes[one]
        _, other_head, other_parts, other_least, other_must, other_weight = self.nodes[other]
        if head is None:
            head, parts = other_head, other_parts
        least = _least_of(least, other_least)
        self._replace(one, (one, head, parts, least, must or other_must, weight + other_weight))
        self._replace(other, (one, *self.nodes[other][1:]))
        return one

    def unite(self, one, other):
        """Let two nodes become one, as infinite types if need be.

        The list of the roots of which it is not yet known of all parts that they must admit equality; or `None` if
        the nodes cannot become one.
        """
        late = []
        todo = [(one, other)]
        while todo:
            one, other = todo.pop()
            one, other = self.root(one), self.root(other)
            if one == other:
                continue
            _, head, parts, _, must, _ = self.nodes[one]
            _, other_head, other_parts, _, other_must, _ = self.nodes[other]
            if head is not None and other_head is not None:
                if head != other_head:
                    return None
                todo.extend(list(zip(parts, other_parts))[::-1])
            joined = self._join(one, other)
            if must != other_must:
                late.append(joined)
        return late

    def is_finite(self, start):
        """Whether no way leads from a node to itself, of all those to which one leads from the start."""
        states = {}
        todo = [(start, False)]
        while todo:
            index, behind = todo.pop()
            index = self.root(index)
            if behind:
                states[index] = "done"
            elif states.get(index) == "begun":
                return False
            elif index not in states:
                states[index] = "begun"
                todo.append((index, True))
                todo.extend([(part, False) for part in self.nodes[index][2]])
        return True

    def _needed_nodes(self, index):
        """The parts of a root that must admit equality if it does; `None` if it never does."""
        head, parts = self.nodes[index][1:3]
        if head is None or head[0] == "tuple":
            return parts
        asks = None if head[0] == "fn" else self.book.asks(head[1])
        return None if asks is None else tuple([parts[position] for position in asks])

    def _mark(self, index):
        node = self.nodes[index]
        self._replace(index, (*node[:MUST], True, *node[MUST + 1:]))

    def demand_of_parts(self, roots):
        """Let all parts of some roots, that must admit equality, do so as well; whether this is possible."""
        todo = list(roots)
        while todo:
            needed = self._needed_nodes(self.root(todo.pop()))
            if needed is None:
                return False
            for part in needed:
                index = self.root(part)
                if not self.nodes[index][MUST]:
                    self._mark(index)
                    todo.append(index)
        return True

    def demand(self, index):
        """Let a node admit equality; whether this is possible."""
        index = self.root(index)
        if self.nodes[index][MUST]:
            return True
        self._mark(index)
        return self.demand_of_parts([index])

    def _level_below(self, level):
        """The dict of the roots directly inside of some roots; both tell how many times each one stands there."""
        inside = {}
        for index, many in level.items():
            for part in self.nodes[index][2]:
                root = self.root(part)
                inside[root] = inside.get(root, 0) + many
        return inside

    def is_great(self, start):
        """Whether the type of a node has a greater size than a type that can be passed.

        The roots at one depth are looked at together, each once, with how many times it stands there.
        """
        size = 0
        level = {self.root(start): 1}
        while level and size <= MAX_SIZE:
            size += sum(level.values())
            level = self._level_below(level)
        return size > MAX_SIZE

    def type_at(self, start):
        """The type of a node, one that is not great."""
        return Spelling(self).spelled(start)

    def variables_below(self, start):
        """The dict of the pairs (root, number) of the variables that stand in the type of a node."""
        found = {}
        seen = {}
        todo = [start]
        while todo:
            index = self.root(todo.pop())
            if index in seen:
                continue
            seen[index] = True
            _, head, parts, least, _, _ = self.nodes[index]
            if head is None:
                found[index] = least
            todo.extend(parts)
        return found

    def number_of(self, index):
        """The least number of the variables that are one with a node, or `None`."""
        return self.nodes[self.root(index)][3]

    def free_and_marked(self, index):
        """Whether a node is a variable without a type put in, that must admit equality."""
        _, head, _, _, must, _ = self.nodes[self.root(index)]
        return head is None and must


class Spelling:
    """The types of the nodes of a graph that does not change meanwhile: that of each root is made once."""

    def __init__(self, graph):
        self.graph = graph
        self.known = {}
        self.sizes = {}

    def variable(self, index):
        """The type of a root that is a variable."""
        return ("var", self.graph.nodes[index][3])

    def spelled(self, start):
        """The type of a node. Variables are come to in the order in which they stand in it."""
        graph, made = self.graph, self.known
        todo = [graph.root(start)]
        while todo:
            index = todo[-1]
            if index not in made:
                _, head, parts, _, _, _ = graph.nodes[index]
                roots = [graph.root(part) for part in parts]
                left = [part for part in roots if part not in made]
                if left:
                    todo.extend(left[::-1])
                    continue
                inner = tuple([made[part] for part in roots])
                made[index] = self.variable(index) if head is None else with_children(head, inner)
                self.sizes[index] = 1 + sum([self.sizes[part] for part in roots])
            todo.pop()
        return made[index]

    def size_of(self, start):
        """The size of the type of a node that has been spelled."""
        return self.sizes[self.graph.root(start)]


def marked_number(graph, index):
    """The least number of the variables that are one with a node, if it must admit equality and has no type put in.

    This is no method: what a property calls must change nothing, and methods are known by their names alone.
    """
    while graph.nodes[index][0] != index:
        index = graph.nodes[index][0]
    _, head, _, least, must, _ = graph.nodes[index]
    return least if head is None and must else None


def renumbered_together(types):
    """The types with their variables renamed to 0, 1, .. in the order in which they first stand in all of them."""
    images = numbered(variables_in(("tuple", types)))
    return tuple([replaced(T, images) for T in types])


def refuse(graph, word, place, nodes):
    """Refuse a demand with the types that some nodes have in the graph."""
    if any([graph.is_great(node) for node in nodes]):
        raise TooMany(MAX_SIZE)
    raise Refused((word, place, *renumbered_together(tuple([graph.type_at(node) for node in nodes]))))


def check_size(graph, node):
    """Raise an error if the type of a node is too great."""
    if graph.is_great(node):
        raise TooMany(MAX_SIZE)


def demand_one(graph, place, one, other):
    """Let two nodes become one; the graph is not taken back if this is refused."""
    moment = graph.moment()
    late = graph.unite(one, other)
    if late is None or not graph.is_finite(one):
        graph.back(moment)
        refuse(graph, "clash" if late is None else "endless", place, (one, other))
    if not graph.demand_of_parts(late):
        refuse(graph, "unequal", place, (one,))
    check_size(graph, one)
