"""[2.5], [2.6] and part 2d: demands, their refusals, and solutions."""

import unittest

from letquay.errors import (
    InvalidBook, InvalidNumber, InvalidOperation, InvalidType, NothingToUndo, Refused, TooMany,
)
from letquay.types.books import Book
from letquay.types.solving import Solver, is_solution
from letquay.types.terms import variables_of
from tests.odd import ODD
from tests.typing_tools import (
    BOOK, EXN, INT, STRING, UNIT, Oracle, list_of, put_plain, random_type, ref_of, renamed, sampler, size_plain, sized,
    var,
)

A, B, C, D, E = [var(k) for k in range(5)]
F = ("fn", INT, INT)
P = (0, 1)
PLACES = ("", None, 0, [0], (-1,), (True,), ("0",), (None,), ((0,),), (10 ** 60,), {}, "x")


def solver_of(count, *marked):
    solver = Solver(BOOK)
    for n in range(count):
        solver.fresh(marked=n in marked)
    return solver


def state(solver):
    """All that a solver tells."""
    solved = []
    for n in range(9):
        try:
            solved.append(solver.solved(var(n)))
        except (InvalidType, TooMany) as error:
            solved.append(type(error))
    return solver.demands, solver.marked, tuple(solved), len(solver), str(solver)


class SolverTest(unittest.TestCase):
    def refused(self, call, reason):
        with self.assertRaises(Refused) as caught:
            call()
        self.assertEqual(caught.exception.reason, reason)

    def too_many(self, call):
        with self.assertRaises(TooMany) as caught:
            call()
        self.assertEqual(caught.exception.limit, 300)

    def test_the_example(self):
        solver = Solver(BOOK)
        self.assertEqual(
            [solver.fresh(), solver.fresh(marked=True), solver.unite((0,), A, ("fn", B, INT)), solver.solved(A),
             solver.marked, str(solver)],
            [A, B, True, ("fn", B, INT), (1,), "solver with 2 variables, 1 demands"])

    def test_demands_are_kept_as_passed(self):
        solver = solver_of(2)
        self.assertIs(solver.unite((), A, list_of(B)), True)
        self.assertIs(solver.admit((3,), A), True)
        self.assertIs(solver.unite((0, 7), B, INT), True)
        self.assertEqual(solver.demands, (("one", (), A, list_of(B)), ("equal", (3,), A), ("one", (0, 7), B, INT)))
        self.assertEqual((len(solver), str(solver)), (3, "solver with 2 variables, 3 demands"))
        self.assertEqual(solver.solved(A), list_of(INT))

    def test_variables_that_become_one(self):
        solver = solver_of(5)
        solver.unite((), D, C)
        self.assertEqual([solver.solved(T) for T in (A, B, C, D)], [A, B, C, C])
        solver.unite((), E, B)
        solver.unite((), E, D)
        self.assertEqual([solver.solved(T) for T in (A, B, C, D, E)], [A, B, B, B, B])
        solver.unite((), A, list_of(C))
        self.assertEqual(solver.solved(A), list_of(B))

    def test_marks_are_handed_on(self):
        solver = solver_of(5, 3)
        self.assertEqual(solver.marked, (3,))
        solver.unite((), D, C)
        self.assertEqual(solver.marked, (2,))
        solver.unite((), C, ("made", 7, (A, ("tuple", (B, ref_of(E))))))
        self.assertEqual(solver.marked, (1,))
        solver.admit((), list_of(A))
        self.assertEqual(solver.marked, (0, 1))
        solver.unite((), B, INT)
        self.assertEqual(solver.marked, (0,))
        solver.unite((), E, A)
        self.assertEqual((solver.marked, solver.solved(E)), ((0,), A))
        solver = solver_of(4)
        solver.unite((), A, ("fn", B, C))
        solver.admit((), B)
        solver.unite((), D, B)
        self.assertEqual(solver.marked, (1,))

    def test_clash(self):
        solver = solver_of(5)
        solver.unite((), D, list_of(C))
        self.refused(lambda: solver.unite(P, ("fn", E, INT), ("tuple", (D, A))),
                     ("clash", P, ("fn", A, INT), ("tuple", (list_of(B), C))))
        self.refused(lambda: solver.unite(P, INT, STRING), ("clash", P, INT, STRING))
        self.refused(lambda: solver.unite((), D, ref_of(A)), ("clash", (), list_of(A), ref_of(B)))
        self.refused(lambda: solver.unite((), ("tuple", (A, A)), ("tuple", (INT, STRING))),
                     ("clash", (), ("tuple", (A, A)), ("tuple", (INT, STRING))))
        self.refused(lambda: solver.unite((), UNIT, ("tuple", (A, B))), ("clash", (), UNIT, ("tuple", (A, B))))
        self.refused(lambda: solver.unite((), ("tuple", (A, B)), ("tuple", (A, B, C))),
                     ("clash", (), ("tuple", (A, B)), ("tuple", (A, B, C))))
        self.refused(lambda: solver.unite((), D, INT), ("clash", (), list_of(A), INT))

    def test_endless(self):
        solver = solver_of(4)
        self.refused(lambda: solver.unite(P, B, list_of(B)), ("endless", P, A, list_of(A)))
        solver.unite((), C, list_of(D))
        self.refused(lambda: solver.unite(P, D, ("fn", C, INT)), ("endless", P, A, ("fn", list_of(A), INT)))
        solver.unite((), A, B)
        self.refused(lambda: solver.unite(P, B, ("tuple", (A, INT))), ("endless", P, A, ("tuple", (A, INT))))

    def test_clash_comes_ahead_of_endless(self):
        solver = solver_of(2)
        self.refused(lambda: solver.unite(P, ("tuple", (A, INT)), ("tuple", (list_of(A), STRING))),
                     ("clash", P, ("tuple", (A, INT)), ("tuple", (list_of(A), STRING))))
        self.refused(lambda: solver.unite(P, ("tuple", (INT, A)), ("tuple", (STRING, list_of(A)))),
                     ("clash", P, ("tuple", (INT, A)), ("tuple", (STRING, list_of(A)))))

    def test_infinite_types_are_compared_as_such(self):
        two = ("tuple", (A, A))
        solver = solver_of(2)
        self.refused(lambda: solver.unite(P, two, ("tuple", (list_of(A), list_of(list_of(A))))),
                     ("endless", P, two, ("tuple", (list_of(A), list_of(list_of(A))))))
        self.refused(lambda: solver.unite(P, ("tuple", (A, A, INT)), ("tuple", (list_of(A), list_of(B), B))),
                     ("clash", P, ("tuple", (A, A, INT)), ("tuple", (list_of(A), list_of(B), B))))

    def test_unequal(self):
        solver = solver_of(4, 1)
        self.refused(lambda: solver.unite(P, B, ("fn", D, C)), ("unequal", P, ("fn", A, B)))
        solver.unite((), B, list_of(D))
        self.refused(lambda: solver.unite(P, D, EXN), ("unequal", P, EXN))
        self.refused(lambda: solver.unite(P, ("tuple", (C, D)), ("tuple", (D, F))), ("unequal", P, ("tuple", (F, F))))
        self.refused(lambda: solver.unite(P, D, ("made", 7, (C, F))), ("unequal", P, ("made", 7, (A, F))))
        self.assertIs(solver.unite(P, D, ("made", 7, (F, C))), True)
        self.assertEqual(solver.marked, (2,))
        self.refused(lambda: solver.admit(P, ("tuple", (C, ("fn", A, A)))), ("unequal", P, ("tuple", (A, ("fn", B, B)))))
        self.refused(lambda: solver.admit(P, ("made", 9, ())), ("unequal", P, ("made", 9, ())))
        self.refused(lambda: solver.admit(P, ("made", 8, (F,))), ("unequal", P, ("made", 8, (F,))))

    def test_endless_comes_ahead_of_unequal(self):
        solver = solver_of(2, 0)
        self.refused(lambda: solver.unite(P, ("tuple", (A, B)), ("tuple", (F, list_of(B)))),
                     ("endless", P, ("tuple", (A, B)), ("tuple", (F, list_of(B)))))
        self.refused(lambda: solver.unite(P, ("tuple", (A, INT)), ("tuple", (F, STRING))),
                     ("clash", P, ("tuple", (A, INT)), ("tuple", (F, STRING))))

    def test_unequal_tells_the_type_by_the_pairs(self):
        solver = solver_of(4, 0)
        solver.unite((), C, ("fn", B, D))
        self.refused(lambda: solver.unite(P, ("tuple", (A, B)), ("tuple", (C, INT))),
                     ("unequal", P, ("tuple", (("fn", INT, A), INT))))
        self.assertEqual(solver.solved(C), ("fn", B, D))
        self.assertEqual(solver.marked, (0,))

    def test_a_told_type_that_is_too_great(self):
        solver = solver_of(4, 3)
        solver.unite((), A, sized(299))
        great = ("tuple", (A, A))
        self.too_many(lambda: solver.unite(P, great, INT))
        self.too_many(lambda: solver.unite(P, INT, great))
        self.too_many(lambda: solver.unite(P, B, ("tuple", (A, B))))
        self.too_many(lambda: solver.admit(P, ("tuple", (A, A, F))))
        self.too_many(lambda: solver.unite(P, D, ("tuple", (A, F))))
        self.too_many(lambda: solver.unite(P, ("tuple", (D, B)), ("tuple", (("fn", B, B), A))))
        self.refused(lambda: solver.unite(P, D, ("fn", B, B)), ("unequal", P, ("fn", A, A)))
        self.refused(lambda: solver.unite(P, A, STRING), ("clash", P, sized(299), STRING))
        self.refused(lambda: solver.unite(P, list_of(A), STRING), ("clash", P, list_of(sized(299)), STRING))

    def test_a_type_that_grows_too_great(self):
        solver = solver_of(4)
        solver.unite((), A, sized(200))
        before = state(solver)
        self.too_many(lambda: solver.unite(P, B, ("tuple", (A, A))))
        self.too_many(lambda: solver.admit(P, ("tuple", (A, A))))
        self.too_many(lambda: solver.solved(("tuple", (A, A))))
        self.assertEqual(state(solver), before)
        self.assertIs(solver.unite(P, ("fn", B, C), ("fn", sized(99), ("fn", B, B))), True)
        self.assertEqual(size_plain(solver.solved(("fn", B, C))), 299)

    def test_exponential_types(self):
        solver = solver_of(60)
        for n in range(7):
            solver.unite((), var(n + 1), ("tuple", (var(n), var(n))))
        solver.unite((), ("tuple", (var(20), var(21))), ("tuple", (INT, ("tuple", (var(20), var(20))))))
        self.too_many(lambda: solver.unite((), var(8), ("tuple", (var(7), var(7)))))
        self.assertEqual(solver.solved(var(8)), var(8))
        for n in range(30, 59):
            self.assertTrue(solver.unite((), ("fn", INT, INT), ("fn", INT, INT)))
            try:
                solver.unite((), var(n + 1), ("tuple", (var(n), var(n))))
            except TooMany:
                self.assertEqual(n, 37)
                break

    def test_what_is_refused_changes_nothing(self):
        solver = solver_of(5, 2)
        solver.unite((), A, ("fn", B, C))
        before = state(solver)
        calls = (
            lambda: solver.unite(P, ("tuple", (B, D, A)), ("tuple", (INT, INT, STRING))),
            lambda: solver.unite(P, ("tuple", (B, D)), ("tuple", (D, list_of(B)))),
            lambda: solver.unite(P, ("tuple", (B, C)), ("tuple", (INT, F))),
            lambda: solver.admit(P, ("tuple", (B, A))), lambda: solver.unite(P, B, None),
            lambda: solver.unite(None, B, INT), lambda: solver.unite(P, ("tuple", (B, D)), ("tuple", (sized(299), INT))),
            lambda: solver.fresh(marked=None), lambda: solver.undo(many=-1), lambda: solver.undo(many=99))
        for call in calls:
            with self.assertRaises((Refused, InvalidType, InvalidOperation, TooMany, InvalidNumber, NothingToUndo)):
                call()
            self.assertEqual(state(solver), before)
            self.assertTrue(solver == solver.twin())

    def test_errors_of_arguments(self):
        for book in ODD:
            if not isinstance(book, Book):
                with self.assertRaises(InvalidBook):
                    Solver(book)
        solver = solver_of(2)
        for place in PLACES:
            with self.assertRaises(InvalidOperation):
                solver.unite(place, None, None)
            with self.assertRaises(InvalidOperation):
                solver.admit(place, None)
        for T in (*ODD, C, list_of(C), ("made", 10, ()), sized(301), var(10 ** 59)):
            for call in (lambda: solver.unite(P, T, A), lambda: solver.unite(P, A, T), lambda: solver.admit(P, T),
                         lambda: solver.solved(T)):
                with self.assertRaises(InvalidType):
                    call()
        for marked in (None, 0, 1, "", (), [], "True"):
            with self.assertRaises(InvalidOperation):
                solver.fresh(marked=marked)

    def test_by_the_oracle(self):
        rng = sampler(2)
        told = {"clash": 0, "endless": 0, "unequal": 0, "kept": 0}
        for round_ in range(500):
            count = rng.choice((2, 3, 5))
            marked = [n for n in range(count) if rng.random() < 0.2]
            solver = solver_of(count, *marked)
            for _ in range(6):
                demand = ("one", P, random_type(rng, 2, count), random_type(rng, 2, count))
                if rng.random() < 0.2:
                    demand = ("equal", P, random_type(rng, 2, count))
                word = self.one_demand(solver, demand, count, marked)
                told[word] += 1
        for word, many in told.items():
            self.assertGreater(many, 40, word)

    def one_demand(self, solver, demand, count, marked):
        ahead = Oracle(solver.demands, count, marked)
        oracle = Oracle((*solver.demands, demand), count, marked)
        types = [put_plain(T, [ahead.type_of(var(n)) for n in range(count)]) for T in demand[2:]]
        call = solver.unite if demand[0] == "one" else solver.admit
        if oracle.clash or not oracle.finite:
            word = "clash" if oracle.clash else "endless"
            self.refused(lambda: call(*demand[1:]), (word, P, *renamed(types)))
        elif oracle.unequal:
            word = "unequal"
            types = types if demand[0] == "equal" else [put_plain(
                demand[2], [oracle.type_of(var(n)) for n in range(count)])]
            self.refused(lambda: call(*demand[1:]), (word, P, *renamed(types)))
        else:
            word = "kept"
            self.assertIs(call(*demand[1:]), True)
            ahead = oracle
        self.assertEqual([solver.solved(var(n)) for n in range(count)], [ahead.type_of(var(n)) for n in range(count)])
        self.assertEqual(solver.marked, tuple(sorted(ahead.musts)))
        value = tuple(solver.solved(var(n)) for n in range(count))
        self.assertTrue(is_solution(BOOK, solver.demands, value, marked=solver.marked))
        return word


class UndoTest(unittest.TestCase):
    def test_undo(self):
        solver = Solver(BOOK)
        states = [state(solver)]
        for call in (lambda: solver.fresh(), lambda: solver.fresh(marked=True), lambda: solver.unite((), A, list_of(B)),
                     lambda: solver.fresh(), lambda: solver.admit((), C), lambda: solver.unite((), C, A),
                     lambda: solver.unite((), B, INT)):
            call()
            states.append(state(solver))
        self.assertEqual(solver.undo(many=0), 7)
        self.assertEqual(state(solver), states[7])
        self.assertEqual(solver.undo(), 6)
        self.assertEqual(state(solver), states[6])
        self.assertEqual(solver.undo(many=3), 3)
        self.assertEqual(state(solver), states[3])
        with self.assertRaises(NothingToUndo) as caught:
            solver.undo(many=4)
        self.assertEqual(caught.exception.many, 4)
        self.assertEqual(state(solver), states[3])
        self.assertEqual(solver.fresh(), C)
        self.assertEqual(solver.undo(many=4), 0)
        self.assertEqual(state(solver), states[0])
        self.assertTrue(solver == Solver(BOOK))
        self.assertEqual(solver.undo(many=0), 0)
        with self.assertRaises(NothingToUndo):
            solver.undo()
        self.assertEqual(solver.fresh(), A)

    def test_wrong_numbers(self):
        solver = solver_of(2)
        for many in (-1, True, None, "1", (1,), [], 10 ** 60, -(10 ** 99), {}):
            with self.assertRaises(InvalidNumber) as caught:
                solver.undo(many=many)
            self.assertIs(caught.exception.given, many)
        with self.assertRaises(NothingToUndo):
            solver.undo(many=10 ** 59)

    def test_undo_and_again(self):
        rng = sampler(8)
        for _ in range(60):
            solver = solver_of(4, 1)
            states = [state(solver)]
            for _ in range(12):
                try:
                    solver.unite((), random_type(rng, 2, 4), random_type(rng, 2, 4))
                    states.append(state(solver))
                except Refused:
                    pass
            while len(states) > 1:
                many = rng.randrange(1, len(states))
                solver.undo(many=many)
                del states[len(states) - many:]
                self.assertEqual(state(solver), states[-1])

    def test_twins(self):
        solver = solver_of(3, 0)
        solver.unite((), B, list_of(A))
        twin = solver.twin()
        self.assertTrue(solver == twin)
        twin.unite((), A, INT)
        self.assertEqual((solver.solved(B), twin.solved(B)), (list_of(A), list_of(INT)))
        self.assertTrue(solver != twin)
        solver.undo(many=2)
        self.assertEqual((twin.solved(B), len(twin), len(solver)), (list_of(INT), 2, 0))
        self.assertEqual(twin.undo(many=5), 0)
        self.assertEqual(str(solver), "solver with 2 variables, 0 demands")

    def test_equality(self):
        one, two = solver_of(2, 0), solver_of(2, 0)
        self.assertTrue(one == two)
        self.assertFalse(one != two)
        for other in (solver_of(2), solver_of(1), solver_of(2, 1), Solver(Book()), *ODD):
            self.assertFalse(one == other)
        one.unite((), A, B)
        self.assertFalse(one == two)
        two.unite((0,), A, B)
        self.assertFalse(one == two)
        two.undo()
        two.unite((), A, B)
        self.assertTrue(one == two)
        three = solver_of(1, 0)
        three.admit((), A)
        three.fresh()
        four = solver_of(2, 0)
        four.admit((), A)
        self.assertFalse(three == four)
        self.assertTrue(Solver(Book()) == Solver(Book()))
        self.assertFalse(Solver(Book()) == Solver(BOOK))
        with self.assertRaises(TypeError):
            iter(one)


class SolutionTest(unittest.TestCase):
    def test_solutions(self):
        demands = (("one", (), A, list_of(B)), ("equal", (1,), A))
        for value, marked, truth in (
                ((list_of(INT), INT), (), True), ((list_of(C), C), (2,), True), ((list_of(C), C), (), False),
                ((list_of(INT), STRING), (), False), ((list_of(INT),), (), False), ((list_of(F), F), (), False),
                ((list_of(INT), INT, EXN, A), (), True), ((), (), False), ([list_of(INT), INT], (), False),
                ((list_of(INT), 1), (), False), ((list_of(INT), INT, None), (), False), (None, (), False),
                (list_of(INT), (), False), ((list_of(ref_of(F)), ref_of(F)), (), True),
                ((list_of(("made", 1, ())), ("made", True, ())), (), False), ((list_of(var(0)), var(False)), (0,), False)):
            self.assertIs(is_solution(BOOK, demands, value, marked=marked), truth, value)

    def test_each_unlike_pair(self):
        types = (INT, STRING, UNIT, F, ("tuple", (INT, INT)), ("tuple", (INT, INT, INT)), list_of(INT), ref_of(INT), C, D,
                 ("made", 7, (INT, INT)), ("fn", F, INT), ("tuple", (INT, STRING)), ("made", 8, (INT,)))
        for T in types:
            for U in types:
                self.assertIs(is_solution(BOOK, (("one", (), A, B),), (T, U)), T == U)
                self.assertIs(is_solution(BOOK, (("one", (), list_of(A), list_of(B)),), (T, U)), T == U)
                if variables_of(BOOK, U) == ():
                    self.assertIs(is_solution(BOOK, (("one", (), A, U),), (T,)), T == U)

    def test_odd_values(self):
        for value in ODD:
            self.assertIs(is_solution(BOOK, (("one", (), A, INT),), value), False)
            self.assertIs(is_solution(BOOK, (), value), value == ())
        self.assertIs(is_solution(BOOK, (), (INT,)), True)

    def test_variables_with_great_numbers(self):
        self.assertIs(is_solution(BOOK, (("equal", (), var(10 ** 59)),), (INT,)), False)
        self.assertIs(is_solution(BOOK, (("one", (), INT, INT),), ()), True)

    def test_results_can_be_great(self):
        great = sized(300)
        T = ("fn", A, ("fn", A, A))
        self.assertIs(is_solution(BOOK, (("one", (), T, ("fn", B, C)),), (great, great, ("fn", INT, INT))), False)
        deep = A
        for _ in range(140):
            deep = ("fn", INT, deep)
        value = (sized(299), sized(299))
        other = put_plain(deep, [B])
        self.assertIs(is_solution(BOOK, (("one", (), deep, put_plain(deep, [B])),), value), True)
        self.assertIs(is_solution(BOOK, (("one", (), deep, other),), (sized(299), sized(297))), False)

    def test_what_comes_by_putting_in(self):
        rng = sampler(6)
        changed = 0
        for _ in range(200):
            solver = solver_of(4)
            for _ in range(4):
                try:
                    solver.unite(P, random_type(rng, 2, 4), random_type(rng, 2, 4))
                except Refused:
                    pass
            value = [solver.solved(var(n)) for n in range(4)]
            types = [random_type(rng, 1, 3) for _ in range(4)]
            other = [put_plain(T, types) for T in value]
            self.assertTrue(is_solution(BOOK, solver.demands, tuple(other)))
            k = rng.randrange(4)
            other[k] = random_type(rng, 2, 3)
            plain = all(put_plain(d[2], other) == put_plain(d[3], other) for d in solver.demands)
            self.assertIs(is_solution(BOOK, solver.demands, tuple(other)), plain)
            changed += not plain
        self.assertGreater(changed, 50)

    def test_errors(self):
        for book in ODD:
            if not isinstance(book, Book):
                with self.assertRaises(InvalidBook):
                    is_solution(book, None, None, marked=None)
        for demands in (None, [], 0, "", (None,), (("one", (), A),), (("one", (), A, B, C),), (("equal", (), A, B),),
                        (("both", (), A, B),), (("one", (True,), A, B),), (("one", None, A, B),), (("one", (), A, None),),
                        (["one", (), A, B],), (("one", (), A, sized(301)),), (("equal", (), ("made", 10, ())),), ((),),
                        (("equal", ()),), ((("one",), (), A, B),), {}, (("equal", (), A), 1)):
            with self.assertRaises(InvalidOperation):
                is_solution(BOOK, demands, None)
        for marked in (None, (1, 0), (True,), [0], 0, (-1,), ((),)):
            with self.assertRaises(InvalidOperation):
                is_solution(BOOK, (), None, marked=marked)
