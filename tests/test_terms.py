"""[2.1] to [2.3] and part 2b: types."""

import unittest

from letquay.errors import InvalidBook, InvalidOperation, InvalidType, TooMany
from letquay.types.books import Book
from letquay.types.terms import (
    MAX_SIZE, admits, is_type, put, renumbered, size_of, type_text, variables_of,
)
from tests.odd import ODD
from tests.typing_tools import (
    BOOK, EXN, INT, STRING, UNIT, chain, list_of, parts, put_plain, random_type, ref_of, renamed, sampler, size_plain,
    sized, var,
)

A, B, C = var(0), var(1), var(2)
CALLS = (
    lambda book, T: size_of(book, T), lambda book, T: variables_of(book, T), lambda book, T: renumbered(book, T),
    lambda book, T: put(book, T, (INT,) * 9), lambda book, T: admits(book, T), lambda book, T: type_text(book, T),
)


class TypesTest(unittest.TestCase):
    def test_types(self):
        self.assertEqual(MAX_SIZE, 300)
        for T in (A, var(10 ** 59), INT, list_of(A), ("fn", A, B), UNIT, ("tuple", (A, A)), ("tuple", (A,) * 299),
                  ("made", 7, (A, INT)), sized(300), chain(299)):
            self.assertIs(is_type(BOOK, T), True, T)

    def test_no_types(self):
        for T in (var(-1), var(True), var(10 ** 60), ("var", "0"), ("var",), ("var", 0, 0), ("made", 1), ("made", 0, ()),
                  ("made", 10, ()), ("made", 1, (INT,)), ("made", 5, ()), ("made", 5, INT), ("made", 7, (A,)),
                  ("made", True, ()), ("made", -1, ()), ("fn", A), ("fn", A, B, C), ("fn", (A, B)), ("fn", A, None),
                  ("tuple", (A,)), ("tuple", A), ("tuple", [A, B]), ("tuple",), ("tuple", (A, [])), ["var", 0],
                  ("made", 5, [A]), ("Var", 0), ("", 0), (("var", 0),), sized(301), sized(302), ("tuple", (A,) * 300),
                  chain(1001), *ODD):
            self.assertIs(is_type(BOOK, T), False, T)
            for call in CALLS:
                with self.assertRaises(InvalidType):
                    call(BOOK, T)

    def test_a_type_of_another_book(self):
        self.assertIs(is_type(Book(), ("made", 7, (A, B))), False)
        self.assertIs(is_type(BOOK, ("made", 7, (A, B))), True)

    def test_no_books(self):
        for book in ODD:
            if isinstance(book, Book):
                continue
            with self.assertRaises(InvalidBook):
                is_type(book, INT)
            for call in CALLS:
                with self.assertRaises(InvalidBook):
                    call(book, None)

    def test_size(self):
        for T, size in ((A, 1), (UNIT, 1), (("fn", A, B), 3), (list_of(list_of(A)), 3), (("tuple", (A, B, INT)), 4)):
            self.assertEqual(size_of(BOOK, T), size)
        for size in (299, 300):
            self.assertEqual(size_of(BOOK, sized(size)), size)

    def test_variables_as_they_first_stand(self):
        for T, told in ((INT, ()), (A, (0,)), (("fn", C, A), (2, 0)), (("tuple", (B, C, B, A)), (1, 2, 0)),
                        (("made", 7, (C, ("fn", A, B))), (2, 0, 1)), (("fn", list_of(var(9)), var(9)), (9,))):
            self.assertEqual(variables_of(BOOK, T), told)
            self.assertEqual(renumbered(BOOK, T), renamed((T,))[0])
        self.assertEqual(renumbered(BOOK, ("fn", C, ("fn", A, C))), ("fn", A, ("fn", B, A)))

    def test_random_types(self):
        rng = sampler(1)
        for _ in range(300):
            T = random_type(rng, 4, 4)
            types = tuple(random_type(rng, 2, 5) for _ in range(rng.choice((4, 5, 6))))
            self.assertEqual(size_of(BOOK, T), size_plain(T))
            self.assertEqual(renumbered(BOOK, T), renamed((T,))[0])
            self.assertEqual(put(BOOK, T, types), put_plain(T, types))
            self.assertEqual(admits(BOOK, T, marked=(0, 2)), self.admits_plain(T, (0, 2)))

    def admits_plain(self, T, marked):
        if T[0] == "var":
            return T[1] in marked
        if T[0] == "tuple":
            return all(self.admits_plain(p, marked) for p in T[1])
        asks = BOOK.asks(T[1]) if T[0] == "made" else None
        return asks is not None and all(self.admits_plain(parts(T)[k], marked) for k in asks)


class PutTest(unittest.TestCase):
    def test_put(self):
        self.assertEqual(put(BOOK, ("fn", A, B), (B, A)), ("fn", B, A))
        self.assertEqual(put(BOOK, ("fn", A, B), (B, A, INT)), ("fn", B, A))
        self.assertEqual(put(BOOK, INT, ()), INT)
        self.assertEqual(put(BOOK, B, (INT, list_of(var(77)))), list_of(var(77)))

    def test_wrong_types(self):
        for T, types in ((A, ()), (B, (INT,)), (("fn", A, C), (INT, INT)), (var(10 ** 59), (INT, INT)), (A, [INT]),
                         (A, INT), (A, None), (INT, (1,)), (INT, ("var",)), (A, (INT, None)), (A, (sized(301),)),
                         (INT, (("made", 10, ()),)), (A, {0: INT})):
            with self.assertRaises(InvalidOperation):
                put(BOOK, T, types)

    def test_too_great(self):
        T = ("tuple", (A, A, A))
        self.assertEqual(size_of(BOOK, put(BOOK, T, (sized(99),))), 298)
        self.assertEqual(size_of(BOOK, put(BOOK, list_of(A), (sized(299),))), 300)
        self.assertEqual(put(BOOK, A, (sized(300),)), sized(300))
        self.assertEqual(put(BOOK, INT, (sized(300),)), INT)
        for T, types in ((list_of(A), (sized(300),)), (("fn", A, A), (sized(150),)), (("tuple", (A,) * 200), (sized(300),))):
            with self.assertRaises(TooMany) as caught:
                put(BOOK, T, types)
            self.assertEqual(caught.exception.limit, 300)
        with self.assertRaises(InvalidOperation):
            put(BOOK, ("fn", list_of(A), B), (sized(300),))
        with self.assertRaises(InvalidOperation):
            put(BOOK, list_of(A), (sized(300), None))


class AdmitsTest(unittest.TestCase):
    def test_admits(self):
        for T, truth in ((INT, True), (STRING, True), (EXN, False), (UNIT, True), (("fn", INT, INT), False), (A, False),
                         (list_of(A), False), (ref_of(A), True), (ref_of(("fn", A, A)), True), (list_of(EXN), False),
                         (ref_of(EXN), True), (("tuple", (INT, list_of(INT))), True), (("tuple", (INT, A)), False),
                         (("made", 7, (("fn", A, A), INT)), True), (("made", 7, (INT, EXN)), False),
                         (("made", 8, (INT,)), True), (("made", 8, (A,)), False), (("made", 9, ()), False)):
            self.assertIs(admits(BOOK, T), truth, T)

    def test_marked(self):
        T = ("tuple", (A, list_of(C)))
        for marked, truth in (((), False), ((0,), False), ((0, 2), True), ((0, 1, 2, 10 ** 59), True), ((2,), False)):
            self.assertIs(admits(BOOK, T, marked=marked), truth)

    def test_wrong_marks(self):
        for marked in ((1, 0), (0, 0), (-1,), (True,), [0], None, 0, ("0",), (10 ** 60,), ((0,),), {}, "0"):
            for call in (admits, type_text):
                with self.assertRaises(InvalidOperation):
                    call(BOOK, A, marked=marked)
                with self.assertRaises(InvalidType):
                    call(BOOK, None, marked=marked)


class TextTest(unittest.TestCase):
    def test_names_of_variables(self):
        for n, name in ((0, "a"), (1, "b"), (25, "z"), (26, "a1"), (51, "z1"), (52, "a2"), (77, "z2"), (260, "a10")):
            self.assertEqual(type_text(BOOK, var(n)), "'" + name)
            self.assertEqual(type_text(BOOK, var(n), marked=(n,)), "''" + name)
            self.assertEqual(type_text(BOOK, var(n), marked=(n + 1,)), "'" + name)

    def test_parentheses(self):
        f = ("fn", INT, INT)
        pair = ("tuple", (INT, INT))
        for T, text in (
                (INT, "int"), (UNIT, "unit"), (list_of(A), "'a list"), (("made", 7, (A, INT)), "('a, int) pair"),
                (f, "int -> int"), (("fn", f, INT), "(int -> int) -> int"), (("fn", INT, f), "int -> int -> int"),
                (pair, "int * int"), (("tuple", (pair, INT)), "(int * int) * int"), (("tuple", (f, f)),
                 "(int -> int) * (int -> int)"), (("fn", pair, pair), "int * int -> int * int"),
                (list_of(f), "(int -> int) list"), (list_of(pair), "(int * int) list"), (list_of(UNIT), "unit list"),
                (("tuple", (UNIT, list_of(A))), "unit * 'a list"), (list_of(list_of(A)), "'a list list"),
                (("made", 7, (f, pair)), "(int -> int, int * int) pair"), (list_of(("made", 7, (A, B))),
                 "('a, 'b) pair list"), (ref_of(ref_of(INT)), "int ref ref"), (("fn", UNIT, UNIT), "unit -> unit"),
                (("made", 8, (pair,)), "(int * int) abs")):
            self.assertEqual(type_text(BOOK, T), text)

    def test_deep_types(self):
        self.assertEqual(type_text(BOOK, chain(299)), "int -> " * 149 + "int")
        T = INT
        for _ in range(149):
            T = ("fn", T, INT)
        self.assertEqual(type_text(BOOK, T), "(" * 148 + "int -> int" + ") -> int" * 148)
        self.assertEqual(renumbered(BOOK, T), T)
