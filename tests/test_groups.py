"""[3.2] to [3.6], [0.11] and part 3b: drafts, what they ask, and whether they live."""

import itertools
import unittest

from letquay.data.groups import asked_in, asks_of, constructor_scheme, lives_with, sets_of, with_draft
from letquay.errors import (
    InvalidBook, InvalidNumber, InvalidOperation, InvalidType, Refused, TooMany, UnknownName,
)
from letquay.types.books import Book
from letquay.types.schemes import Scheme
from letquay.types.terms import admits, is_type
from tests.odd import ODD
from tests.typing_tools import (
    BOOK, BOOL, EXN, INT, STRING, UNIT, chain, list_of, parts, put_plain, ref_of, sampler, size_plain, sized,
    var,
)

A, B, C, D = [var(k) for k in range(4)]
PLAIN = Book()


def one(T):
    """The draft 7 of one row with one constructor."""
    return (("t", 2, (("K", T),)),)


def made(stamp, *types):
    return ("made", stamp, types)


class AskedTest(unittest.TestCase):
    def test_asked_in(self):
        for T, told in (
                (A, (0,)), (INT, ()), (EXN, None), (("tuple", (C, A, C)), (0, 2)), (("fn", A, B), None), (UNIT, ()),
                (list_of(B), (1,)), (list_of(EXN), None), (ref_of(A), ()), (ref_of(EXN), ()), (made(7, A, B), (1,)),
                (made(7, EXN, A), (0,)), (made(7, A, EXN), None), (made(8, A), (0,)), (made(9), None),
                (("tuple", (A, ("fn", A, A))), None), (ref_of(("tuple", (A, B))), ()), (var(10 ** 59), (10 ** 59,))):
            self.assertEqual(asked_in(BOOK, T), told)
            self.assertEqual(admits(BOOK, T, marked=told or ()), told is not None)

    def test_asks_of(self):
        for carried, told in (
                (A, (0,)), (INT, ()), (EXN, None), (("tuple", (A, B)), (0, 1)), (ref_of(A), ()), (("fn", A, A), None),
                (("tuple", (ref_of(A), list_of(B))), (1,)), (made(7, A, B), (1,)), (made(9), None), (None, ()),
                (made(10, A, B), ()), (made(10, B, A), ()), (("tuple", (A, made(10, B, A))), (0, 1)),
                (("tuple", (A, made(10, A, B))), (0,)), (("tuple", (B, list_of(made(10, B, B)))), (1,)),
                (made(10, ("fn", A, A), B), ()), (("tuple", (A, made(10, ("fn", A, A), B))), None),
                (("tuple", (B, made(10, ("fn", A, A), B))), (1,)), (ref_of(made(10, A, B)), ())):
            self.assertEqual(asks_of(BOOK, one(carried)), (told,), carried)

    def test_asks_of_several_rows(self):
        draft = (("a", 1, (("X", made(8, A, INT)), ("Y", A))), ("b", 2, (("Z", made(7, A)), ("W", ref_of(B)))))
        self.assertEqual(asks_of(PLAIN, draft), ((0,), (0,)))
        draft = (("a", 1, (("X", made(8, INT, A)),)), ("b", 2, (("Z", made(7, A)), ("W", B), ("V", ("fn", A, A)))))
        self.assertEqual(asks_of(PLAIN, draft), (None, None))
        draft = (("a", 1, (("X", None),)), ("b", 1, (("Y", ("tuple", (made(7, A), EXN))),)))
        self.assertEqual(asks_of(PLAIN, draft), ((), None))
        draft = (("a", 1, (("X", None), ("Y", made(8, A)))), ("b", 1, (("Z", made(9, A)),)),
                 ("c", 1, (("W", A), ("V", made(7, ("fn", A, A))))))
        self.assertEqual(asks_of(PLAIN, draft), (None, None, None))


class LivesTest(unittest.TestCase):
    def test_lives_with(self):
        rows = (("void", 0, (), (("V", made(10)),)), ("half", 2, (), (("H", A), ("G", made(11, B, A)))),
                ("pick", 1, (), (("P", ("tuple", (A, made(10)))),)))
        book = BOOK.with_stamps(rows)[0]
        for T, variables, truth in (
                (A, (), False), (A, (0,), True), (A, (5, 0, 5), True), (("tuple", (A, B)), (0,), False),
                (("tuple", (A, B)), (1, 0), True), (UNIT, (), True), (INT, (), True), (EXN, (), True), (STRING, (), True),
                (("fn", A, B), (), True), (ref_of(A), (), False), (ref_of(A), (0,), True), (list_of(A), (), True),
                (BOOL, (), True), (made(8, A), (), True), (made(9), (), True), (made(7, A, B), (0,), False),
                (made(7, A, B), (0, 1), True), (made(10), (0, 1), False), (made(11, A, B), (), False),
                (made(11, A, B), (1,), True), (made(11, A, B), (0,), True), (made(12, A), (0,), False),
                (("fn", made(10), made(10)), (), True), (ref_of(made(10)), (), False), (list_of(made(10)), (), True)):
            self.assertIs(lives_with(book, T, variables), truth, (T, variables))

    def test_sets_of(self):
        for carried, told in (
                (A, ((0,),)), (None, ((),)), (INT, ((),)), (("tuple", (A, B)), ((0, 1),)), (ref_of(B), ((1,),)),
                (("fn", A, B), ((),)), (made(10, A, B), ()), (made(10, B, A), ()), (list_of(A), ((),)), (EXN, ((),)),
                (made(8, A), ((),)), (made(7, A, A), ((0,),)), (ref_of(made(10, A, B)), ())):
            self.assertEqual(sets_of(BOOK, one(carried)), (told,), carried)
        draft = (("t", 4, (("K", A), ("L", ("tuple", (B, C))), ("M", ("tuple", (A, D))), ("N", made(7, D, C, B, A)))),)
        self.assertEqual(sets_of(PLAIN, draft), (((0,), (1, 2), (3,)),))
        draft = (("a", 1, (("X", made(8, A)),)), ("b", 1, (("Y", A), ("Z", made(7, A)))), ("c", 0, (("W", made(9)),)))
        self.assertEqual(sets_of(PLAIN, draft), (((0,),), ((0,),), ()))

    def test_with_draft(self):
        draft = (("tree", 1, (("Leaf", None), ("Node", ("tuple", (made(7, A), A, made(8)))))), ("u", 0, (("U", made(7, INT)),)))
        book, stamps = with_draft(PLAIN, draft)
        self.assertEqual((stamps, len(book), book.printed(7), book.arity(7)), ((7, 8), 8, "tree", 1))
        self.assertEqual((book.asks(7), book.asks(8)), ((0,), ()))
        self.assertEqual((book.constructors(7), book.constructors(8)), (draft[0][2], draft[1][2]))
        self.assertEqual(len(PLAIN), 6)
        self.assertTrue(book == PLAIN.with_stamps((("tree", 1, (0,), draft[0][2]), ("u", 0, (), draft[1][2])))[0])

    def test_the_first_empty_row_is_told(self):
        for draft, name in (
                ((("a", 0, (("X", made(7)),)),), "a"), ((("a", 0, (("X", None),)), ("b", 0, (("Y", made(8)),))), "b"),
                ((("a", 0, (("X", made(8)),)), ("b", 0, (("Y", made(7)),))), "a"),
                ((("a", 1, (("X", ref_of(made(7, A))),)),), "a"), ((("a", 1, (("X", made(7, list_of(A))),)),), "a")):
            with self.assertRaises(Refused) as caught:
                with_draft(PLAIN, draft)
            self.assertEqual(caught.exception.reason, ("empty", name))

    def test_forward_rows_in_a_long_book(self):
        rows = tuple((("t"), 1, (), (("K", made(8 + k, A)),)) for k in range(400)) + (("t", 1, (), (("K", A),)),)
        book = PLAIN.with_stamps(rows)[0]
        self.assertIs(lives_with(book, made(7, A), (0,)), True)
        self.assertIs(lives_with(book, made(7, A), ()), False)


class ByUnfoldingTest(unittest.TestCase):
    """Small drafts by the words of [3.5] and [3.6], as far as some unfoldings go."""

    def carried(self, rng, deep, arity, arities):
        if deep == 0 or rng.random() < 0.3:
            return rng.choice([var(n) for n in range(arity)] * 3 + [INT, EXN, UNIT, made(9), ("fn", INT, INT)])
        below = [self.carried(rng, deep - 1, arity, arities) for _ in range(2)]
        stamp = rng.choice((5, 6, 8, 10, 11, 10, 11, 0))
        if stamp == 0:
            return ("tuple", tuple(below))
        return ("made", stamp, tuple(below[:arities[stamp]]))

    def draft(self, rng):
        arities = {5: 1, 6: 1, 8: 1, 10: rng.choice((0, 1, 2)), 11: rng.choice((1, 2))}
        rows = []
        for stamp in (10, 11):
            pairs = tuple(
                (f"{'AB'[stamp - 10]}{'xyz'[k]}", rng.choice((None, self.carried(rng, 2, arities[stamp], arities))))
                for k in range(rng.choice((1, 1, 2, 3))))
            rows.append(("tu"[stamp - 10], arities[stamp], pairs))
        return tuple(rows)

    def meets_bad(self, book, T, marked):
        """Whether an unfolding leads to what is never equal, of the first ones by the number of steps."""
        seen = {T}
        todo = [T]
        for T in todo:
            if T[0] == "fn" or T == EXN or T[0] == "var" and T[1] not in marked or T == made(9):
                return True
            for U in self.unfolded(book, T):
                if len(seen) < 400 and size_plain(U) < 40 and U not in seen:
                    seen.add(U)
                    todo.append(U)
        return False

    def unfolded(self, book, T):
        if T[0] == "tuple":
            return T[1]
        if T[0] != "made" or T[1] == 6:
            return ()
        pairs = book.constructors(T[1])
        if pairs is None:
            return T[2]
        return [put_plain(carried, T[2]) for _, carried in pairs if carried is not None]

    def test_equality_by_unfoldings(self):
        rng = sampler(12)
        seen = set()
        for _ in range(150):
            draft = self.draft(rng)
            asks = asks_of(BOOK, draft)
            rows = tuple((row[0], row[1], asked, row[2]) for row, asked in zip(draft, asks))
            book, stamps = BOOK.with_stamps(rows)
            for stamp in stamps:
                T = ("made", stamp, tuple(var(n) for n in range(book.arity(stamp))))
                for marked in ((), (0,), (1,), (0, 1)):
                    good = not self.meets_bad(book, T, marked)
                    seen.add((good, marked))
                    self.assertIs(admits(book, T, marked=marked), good, (draft, stamp, marked))
        self.assertGreater(len(seen), 5)

    def has_value(self, book, T, variables, high):
        """Whether a type has a value at most so high, if the variables in a set do."""
        if T[0] == "var":
            return T[1] in variables
        if T[0] == "tuple":
            return all(self.has_value(book, p, variables, high) for p in T[1])
        if T[0] == "fn":
            return True
        if T[1] == 6:
            return self.has_value(book, T[2][0], variables, high)
        pairs = book.constructors(T[1])
        if pairs is None:
            return True
        if high == 0:
            return False
        return any(c is None or self.has_value(book, put_plain(c, T[2]), variables, high - 1) for _, c in pairs)

    def test_values_by_height(self):
        rng = sampler(13)
        empty = 0
        for _ in range(150):
            draft = self.draft(rng)
            rows = tuple((row[0], row[1], (), row[2]) for row in draft)
            book, stamps = BOOK.with_stamps(rows)
            sets = sets_of(BOOK, draft)
            for stamp, told in zip(stamps, sets):
                arity = book.arity(stamp)
                T = ("made", stamp, tuple(var(n) for n in range(arity)))
                every = [c for size in range(arity + 1) for c in itertools.combinations(range(arity), size)]
                living = [c for c in every if self.has_value(book, T, c, 5)]
                least = sorted(c for c in living if not any(set(o) < set(c) for o in living))
                self.assertEqual(told, tuple(least), (draft, stamp))
                for c in every:
                    self.assertIs(lives_with(book, T, c), c in living)
                empty += not told
        self.assertGreater(empty, 10)


class ErrorsTest(unittest.TestCase):
    def test_wrong_drafts(self):
        right = ("t", 1, (("K", A),))
        self.assertEqual(asks_of(PLAIN, (right,)), ((0,),))
        many = tuple((f"t{'abcdefg'[k]}", 0, ((f"K{'abcdefg'[k]}", None),)) for k in range(7))
        self.assertEqual(len(asks_of(PLAIN, many[:6])), 6)
        twelve = tuple((f"K{'abcdefghijklm'[k]}", None) for k in range(13))
        self.assertEqual(asks_of(PLAIN, (("t", 0, twelve[:12]),)), ((),))
        self.assertEqual(asks_of(PLAIN, (("t", 0, (("K", sized(300)),)),)), (None,))
        wrong = [
            (), [right], (right, right), right, (["t", 1, (("K", A),)],), (("T", 1, (("K", A),)),), (("ref", 0, (("K", None),)),),
            (("t", 5, (("K", A),)),), (("t", -1, (("K", None),)),), (("t", True, (("K", A),)),), (("t", 1, ()),),
            (("t", 1, (("k", A),)),), (("t", 1, (("K", B),)),), (("t", 1, (("K", A), ("K", None))),), (("t", 1, (("K",),)),),
            (("t", 1, (("K", made(8)),)),), (("t", 1, (("K", made(7)),)),), (("t", 1, [("K", A)]),), (("t", 1, None),),
            (right, ("u", 0, (("K", None),))), (("t", 0, (("K", None),)), ("t", 0, (("L", None),))), many,
            (("t", 0, twelve),), (("t", 0, (("K", sized(301)),)),), (("t", 1, (("K", A),), None),), (("t", 1),),
            *[value for value in ODD], *[(value,) for value in ODD], *[(("t", 0, (("K", value),)),) for value in ODD[1:]]]
        for draft in wrong:
            for call in (asks_of, sets_of, with_draft):
                with self.assertRaises(InvalidOperation):
                    call(PLAIN, draft)

    def test_no_books(self):
        for book in ODD:
            if isinstance(book, Book):
                continue
            for call in (lambda: asks_of(book, None), lambda: sets_of(book, None), lambda: with_draft(book, None),
                         lambda: asked_in(book, None), lambda: lives_with(book, None, None),
                         lambda: constructor_scheme(book, None, None)):
                with self.assertRaises(InvalidBook):
                    call()

    def test_wrong_types_and_variables(self):
        for T in (*ODD, made(10), sized(301)):
            with self.assertRaises(InvalidType):
                asked_in(BOOK, T)
            with self.assertRaises(InvalidType):
                lives_with(BOOK, T, None)
        for variables in (None, [0], 0, (-1,), (True,), ("0",), ((0,),), {}, "0"):
            with self.assertRaises(InvalidOperation):
                lives_with(BOOK, A, variables)


class ConstructorsTest(unittest.TestCase):
    def test_schemes(self):
        draft = (("t", 2, (("K", ("tuple", (B, A))), ("L", None), ("M", INT), ("N", ("fn", B, B)))),)
        book = with_draft(PLAIN, draft)[0]
        for stamp, name, body in (
                (3, "True", BOOL), (5, "Nil", list_of(A)), (5, "Cons", ("fn", ("tuple", (A, list_of(A))), list_of(A))),
                (7, "K", ("fn", ("tuple", (A, B)), made(7, B, A))), (7, "L", made(7, A, B)),
                (7, "M", ("fn", INT, made(7, A, B))), (7, "N", ("fn", ("fn", A, A), made(7, B, A)))):
            self.assertTrue(constructor_scheme(book, stamp, name) == Scheme(book, (), body), name)

    def test_errors(self):
        for stamp in (0, -1, 7, True, None, "5", (5,), [], 10 ** 70):
            with self.assertRaises(InvalidNumber) as caught:
                constructor_scheme(PLAIN, stamp, None)
            self.assertIs(caught.exception.given, stamp)
        for stamp, name in ((3, "Nil"), (5, "True"), (1, "Int"), (6, "Ref"), (4, "Match"), (5, "nil"), *[(5, v) for v in ODD]):
            with self.assertRaises(UnknownName) as caught:
                constructor_scheme(PLAIN, stamp, name)
            self.assertIs(caught.exception.wanted, name)

    def test_too_great(self):
        book = with_draft(PLAIN, (("t", 2, (("K", sized(296)), ("L", chain(297)))),))[0]
        self.assertEqual(len(constructor_scheme(book, 7, "K")), 300)
        with self.assertRaises(TooMany) as caught:
            constructor_scheme(book, 7, "L")
        self.assertEqual(caught.exception.limit, 300)
        with self.assertRaises(UnknownName):
            constructor_scheme(book, 7, "M")
        self.assertTrue(is_type(book, made(7, A, B)) and parts(made(7, A, B)) == (A, B))
