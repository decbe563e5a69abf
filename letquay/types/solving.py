"""Solving: demands on types, and their most general solution."""

from letquay.checks import is_place, is_whole
from letquay.errors import InvalidNumber, InvalidOperation, InvalidType, NothingToUndo, Refused, TooMany
from letquay.types.graphs import Graph, check_size, demand_one, marked_number, refuse
from letquay.types.shapes import MAX_SIZE, children, variables_in
from letquay.types.terms import admits_with, are_types, asked_variables, check_book, check_marked, is_type


class Solver:
    """Variables and demands, of which none is refused."""

    def __init__(self, book):
        check_book(book)
        self._book = book
        self._graph = Graph(book)
        self._variables = []
        self._demands = []
        # The calls that had an effect, and for each one the moment of the graph ahead of it.
        self._calls = []
        self._moments = []

    def _note(self, call, moment):
        self._calls.append(call)
        self._moments.append(moment)

    def _check_type(self, T):
        if not is_type(self._book, T) or not all([n < len(self._variables) for n in variables_in(T)]):
            raise InvalidType("this is no type of the book with variables of this solver")

    def fresh(self, *, marked=False):
        """A new variable, which must admit equality if it is marked."""
        if not isinstance(marked, bool):
            raise InvalidOperation("a variable is marked or not")
        moment = self._graph.moment()
        number = len(self._variables)
        self._variables.append(self._graph.add_variable(number, marked))
        self._note(("fresh", marked), moment)
        return ("var", number)

    def _keep(self, demand, moment):
        self._demands.append(demand)
        self._note(demand, moment)
        return True

    def unite(self, place, T, U):
        """Demand that two types are one."""
        if not is_place(place):
            raise InvalidOperation("a place is a tuple of integers from 0 on")
        self._check_type(T)
        self._check_type(U)
        moment = self._graph.moment()
        one = self._graph.add_type(T, self._variables)
        other = self._graph.add_type(U, self._variables)
        try:
            demand_one(self._graph, place, one, other)
        except (Refused, TooMany):
            self._graph.back(moment)
            raise
        return self._keep(("one", place, T, U), moment)

    def admit(self, place, T):
        """Demand that a type admits equality."""
        if not is_place(place):
            raise InvalidOperation("a place is a tuple of integers from 0 on")
        self._check_type(T)
        moment = self._graph.moment()
        node = self._graph.add_type(T, self._variables)
        try:
            if not self._graph.demand(node):
                refuse(self._graph, "unequal", place, (node,))
            check_size(self._graph, node)
        except (Refused, TooMany):
            self._graph.back(moment)
            raise
        return self._keep(("equal", place, T), moment)

    def solved(self, T):
        """The type by the most general solution."""
        self._check_type(T)
        moment = self._graph.moment()
        node = self._graph.add_type(T, self._variables)
        found = None if self._graph.is_great(node) else self._graph.type_at(node)
        self._graph.back(moment)
        if found is None:
            raise TooMany(MAX_SIZE)
        return found

    @property
    def demands(self):
        """The demands, as they were passed."""
        return tuple(self._demands)

    @property
    def marked(self):
        """The numbers of the variables without a type put in that must admit equality, each class by its least one."""
        pairs = list(enumerate(self._variables))
        return tuple([number for number, node in pairs if marked_number(self._graph, node) == number])

    def undo(self, *, many=1):
        """Take the last calls that had an effect back; how many are left."""
        if not is_whole(many):
            raise InvalidNumber(many)
        if many > len(self._calls):
            raise NothingToUndo(many)
        for _ in range(many):
            self._graph.back(self._moments.pop())
            if self._calls.pop()[0] == "fresh":
                self._variables.pop()
            else:
                self._demands.pop()
        return len(self._calls)

    def twin(self):
        """An equal solver that goes on by itself."""
        solver = Solver(self._book)
        solver._graph = self._graph.copied()
        solver._variables = list(self._variables)
        solver._demands = list(self._demands)
        solver._calls = list(self._calls)
        solver._moments = list(self._moments)
        return solver

    def __eq__(self, other):
        return isinstance(other, Solver) and self._book == other._book and self._calls == other._calls

    def __len__(self):
        return len(self._demands)

    def __str__(self):
        return f"solver with {len(self._variables)} variables, {len(self._demands)} demands"


def _is_demand(book, value):
    if not isinstance(value, tuple) or len(value) < 3 or not isinstance(value[0], str) or not is_place(value[1]):
        return False
    many = {"one": 2, "equal": 1}.get(value[0])
    return many == len(value) - 2 and are_types(book, value[2:])


def _with_put(T, inside, value):
    """A type, and whether all that is put in has been: a variable is replaced by what is put in its place."""
    if T[0] == "var" and not inside:
        return value[T[1]], True
    return T, inside


def _are_one(T, U, value):
    """Whether two types are one when a tuple of types is put in."""
    todo = [(T, False, U, False)]
    while todo:
        T, inside, U, other_inside = todo.pop()
        T, inside = _with_put(T, inside, value)
        U, other_inside = _with_put(U, other_inside, value)
        parts, others = children(T), children(U)
        if T[0] != U[0] or len(parts) != len(others) or T[0] in ("var", "made") and T[1] != U[1]:
            return False
        todo.extend([(part, inside, other, other_inside) for part, other in zip(parts, others)])
    return True


def _admits_put(book, T, value, marked):
    """Whether a type admits equality when a tuple of types is put in."""
    asked = asked_variables(book, (T,))
    return asked is not None and all([admits_with(book, value[variable], marked) for variable in asked])


def _is_met(book, demand, value, marked):
    if not all([n < len(value) for T in demand[2:] for n in variables_in(T)]):
        return False
    if demand[0] == "one":
        return _are_one(demand[2], demand[3], value)
    return _admits_put(book, demand[2], value, marked)


def is_solution(book, demands, value, *, marked=()):
    """Whether the value is a tuple of types that solves the demands, for some marked variables of these types."""
    check_book(book)
    if not isinstance(demands, tuple) or not all([_is_demand(book, demand) for demand in demands]):
        raise InvalidOperation("this is no tuple of demands of the book")
    check_marked(marked)
    return are_types(book, value) and all([_is_met(book, demand, value, marked) for demand in demands])
