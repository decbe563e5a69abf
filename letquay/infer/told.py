"""Telling: the derivation of a walk, with the types of the solution of all its demands."""

from letquay.errors import TooMany
from letquay.types.graphs import Spelling
from letquay.types.shapes import MAX_SIZE


class Telling(Spelling):
    """New numbers for the variables of a walk, in the order in which they first stand in its derivation."""

    def __init__(self, walk):
        Spelling.__init__(self, walk.graph)
        self.walk = walk
        self.numbers = {}
        self.are_marked = {}

    def variable(self, index):
        """The type of a root that is a variable, with its new number."""
        _, _, _, least, must, _ = self.graph.nodes[index]
        number = len(self.numbers)
        self.numbers[least] = number
        self.are_marked[number] = must
        return ("var", number)

    def type_of(self, node):
        """The type of a node, with the new numbers."""
        T = self.spelled(node)
        if self.size_of(node) > MAX_SIZE:
            raise TooMany(MAX_SIZE)
        return T

    def types_put_in(self, pairs):
        """The tuple of the types that are put in, those for a local name in the order of its new numbers."""
        nodes = [(k if number is None else self.numbers[number], node) for k, (number, node) in enumerate(pairs)]
        return tuple([self.type_of(node) for _, node in sorted(nodes)])

    def numbers_of(self, roots):
        """The ascending tuple of the new numbers of generalized variables."""
        return tuple(sorted([self.numbers[self.walk.graph.number_of(root)] for root in roots]))


def derivation_of(telling):
    """The told derivation of a walk."""
    walk = telling.walk
    rows = []
    for place in sorted(walk.nodes):
        T = telling.type_of(walk.nodes[place])
        rows.append((place, T, telling.types_put_in(walk.put_in.get(place, []))))
    # The numbers of a let stand ahead of the rows in which its variables get them.
    told = [(place, T, telling.numbers_of(walk.general[place]) if place in walk.general else more)
            for place, T, more in rows]
    return tuple(told), tuple([number for number, marked in telling.are_marked.items() if marked])


def cases_with(telling):
    """The rows of all matches of a walk, ascending by places, with their types."""
    cases = {place: (node, rows) for place, node, rows in telling.walk.cases}
    return tuple([(place, telling.type_of(cases[place][0]), cases[place][1]) for place in sorted(cases)])
