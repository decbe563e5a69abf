"""[2.4] and part 2c: schemes."""

import unittest

from letquay.errors import InvalidBook, InvalidOperation, InvalidScheme, InvalidType, Refused, TooMany
from letquay.types.books import Book
from letquay.types.schemes import Scheme
from letquay.types.terms import admits
from tests.odd import ODD
from tests.typing_tools import (
    BOOK, EXN, INT, STRING, UNIT, Oracle, list_of, put_plain, random_type, ref_of, sampler, sized, var,
)

A, B, C = var(0), var(1), var(2)
F = ("fn", INT, INT)
PLAIN = Book()


def scheme(body, *marks):
    return Scheme(BOOK, marks, body)


class MadeTest(unittest.TestCase):
    def test_properties(self):
        one = scheme(("fn", A, ("tuple", (B, A))), 1)
        self.assertEqual((one.marks, one.body, one.total, len(one)), ((1,), ("fn", A, ("tuple", (B, A))), 2, 5))
        self.assertEqual(str(one), "scheme with 2 variables, 1 marked")
        self.assertEqual(one.text(BOOK), "'a -> ''b * 'a")
        self.assertEqual((str(scheme(INT)), len(scheme(INT)), scheme(INT).total), ("scheme with 0 variables, 0 marked", 1, 0))

    def test_wrong_schemes(self):
        for marks, body in (((), B), ((), ("fn", B, A)), ((), ("fn", A, C)), ((1,), A), ((0, 0), A), ((1, 0), ("fn", A, B)),
                            ([0], A), ((True,), ("fn", A, B)), (None, A), ((), None), ((), sized(301)), ((0,), INT),
                            ((), ("made", 10, ())), ((-1,), A), (0, A), ((), [A]), ("", A)):
            with self.assertRaises(InvalidScheme):
                Scheme(BOOK, marks, body)
        for value in ODD:
            if value != ():
                with self.assertRaises(InvalidScheme):
                    Scheme(BOOK, value, INT)
            with self.assertRaises(InvalidScheme):
                Scheme(BOOK, (), value)
            if not isinstance(value, Book):
                with self.assertRaises(InvalidBook):
                    Scheme(value, None, None)

    def test_of(self):
        one = Scheme.of(BOOK, ("fn", C, ("tuple", (A, C))), marked=(0, 1))
        self.assertEqual((one.marks, one.body), ((1,), ("fn", A, ("tuple", (B, A)))))
        self.assertEqual(Scheme.of(BOOK, list_of(var(9))).body, list_of(A))
        self.assertEqual(Scheme.of(BOOK, ("fn", C, A), marked=(0, 2)).marks, (0, 1))
        self.assertEqual(Scheme.of(BOOK, INT, marked=(3,)).marks, ())
        with self.assertRaises(InvalidBook):
            Scheme.of(None, None, marked=None)
        with self.assertRaises(InvalidType):
            Scheme.of(BOOK, None, marked=None)
        for marked in ((1, 0), [0], None, (True,), 0):
            with self.assertRaises(InvalidOperation):
                Scheme.of(BOOK, A, marked=marked)

    def test_equality(self):
        one = scheme(("fn", A, B), 0)
        self.assertTrue(one == Scheme.of(BOOK, ("fn", B, A), marked=(1,)))
        self.assertFalse(one != scheme(("fn", A, B), 0))
        for other in (scheme(("fn", A, B)), scheme(("fn", A, B), 1), scheme(("fn", A, A), 0), scheme(A, 0), *ODD):
            self.assertFalse(one == other)
            self.assertTrue(one != other)
        self.assertTrue(Scheme(PLAIN, (), INT) == scheme(INT))
        self.assertTrue(scheme(sized(300)) == scheme(sized(300)))
        self.assertFalse(scheme(("tuple", (UNIT, UNIT))) == scheme(("tuple", (UNIT, INT))))
        with self.assertRaises(TypeError):
            iter(one)

    def test_text_of_another_book(self):
        with self.assertRaises(InvalidBook):
            scheme(("made", 8, (A,))).text(PLAIN)
        for value in ODD:
            if not isinstance(value, Book):
                with self.assertRaises(InvalidBook):
                    scheme(A).text(value)
        self.assertEqual(scheme(list_of(A), 0).text(PLAIN), "''a list")


class InstanceTest(unittest.TestCase):
    def test_instance(self):
        one = scheme(("fn", A, ("tuple", (B, A))), 1)
        self.assertEqual(one.instance(BOOK, (F, INT)), ("fn", F, ("tuple", (INT, F))))
        self.assertEqual(one.instance(BOOK, (B, A), marked=(0,)), ("fn", B, ("tuple", (A, B))))
        self.assertEqual(scheme(INT).instance(PLAIN, ()), INT)

    def test_the_first_that_does_not_admit(self):
        three = scheme(("tuple", (A, B, C)), 1, 2)
        for types, marked, number in (((F, F, F), (), 1), ((F, INT, F), (), 2), ((F, INT, A), (), 2), ((A, A, B), (1,), 1),
                                      ((A, A, B), (0,), 2), ((F, list_of(EXN), INT), (), 1)):
            with self.assertRaises(Refused) as caught:
                three.instance(BOOK, types, marked=marked)
            self.assertEqual(caught.exception.reason, ("unequal", number))
        self.assertEqual(three.instance(BOOK, (F, ref_of(F), A), marked=(0,)), ("tuple", (F, ref_of(F), A)))

    def test_order_of_errors(self):
        three = scheme(("tuple", (A, B, C)), 1)
        pair = scheme(("made", 7, (A, B)))
        great = sized(200)
        with self.assertRaises(InvalidBook):
            pair.instance(PLAIN, None, marked=None)
        with self.assertRaises(InvalidBook):
            pair.instance(None, None, marked=None)
        for types in ((), (INT, INT), (INT,) * 4, [INT] * 3, None, (INT, INT, 1), (INT, INT, sized(301)), INT):
            with self.assertRaises(InvalidOperation):
                three.instance(BOOK, types, marked=None)
        for marked in (None, (1, 0), [1]):
            with self.assertRaises(InvalidOperation):
                three.instance(BOOK, (F, F, F), marked=marked)
        with self.assertRaises(Refused):
            three.instance(BOOK, (great, F, great))
        with self.assertRaises(TooMany) as caught:
            three.instance(BOOK, (great, INT, great))
        self.assertEqual(caught.exception.limit, 300)
        self.assertEqual(len(Scheme.of(BOOK, three.instance(BOOK, (sized(99), INT, sized(199))))), 300)


class CoversTest(unittest.TestCase):
    def check(self, one, other, there, back):
        self.assertIs(one.covers(BOOK, other), there)
        self.assertIs(other.covers(BOOK, one), back)

    def test_covers(self):
        self.check(scheme(A), scheme(INT), True, False)
        self.check(scheme(A), scheme(A), True, True)
        self.check(scheme(A), scheme(A, 0), True, False)
        self.check(scheme(A, 0), scheme(INT), True, False)
        self.check(scheme(A, 0), scheme(F), False, False)
        self.check(scheme(("fn", A, B)), scheme(("fn", A, A)), True, False)
        self.check(scheme(("fn", A, A)), scheme(("fn", INT, STRING)), False, False)
        self.check(scheme(("fn", A, A)), scheme(("fn", list_of(INT), list_of(INT))), True, False)
        self.check(scheme(A, 0), scheme(list_of(A), 0), True, False)
        self.check(scheme(A, 0), scheme(list_of(A)), False, False)
        self.check(scheme(A, 0), scheme(ref_of(A)), True, False)
        self.check(scheme(A, 0), scheme(("made", 7, (A, B)), 1), True, False)
        self.check(scheme(A, 0), scheme(("made", 7, (A, B)), 0), False, False)
        self.check(scheme(("tuple", (A, B)), 0, 1), scheme(("tuple", (A, B)), 0), False, True)
        self.check(scheme(INT), scheme(INT), True, True)
        self.check(scheme(UNIT), scheme(("tuple", (A, B))), False, False)
        self.check(scheme(list_of(A)), scheme(ref_of(A)), False, False)
        self.check(scheme(("made", 9, ())), scheme(A, 0), False, False)

    def test_by_instances(self):
        rng = sampler(4)
        ground = [INT, F, list_of(INT), ref_of(F), list_of(F), ("tuple", (INT, F)), ("made", 7, (F, INT)), EXN]
        seen = {True: 0, False: 0}
        for _ in range(400):
            one, other = [self.random_scheme(rng) for _ in range(2)]
            truth = one.covers(BOOK, other)
            seen[truth] += 1
            for _ in range(8):
                types = tuple(rng.choice(ground) for _ in range(other.total))
                if all(admits(BOOK, types[mark]) for mark in other.marks) and truth:
                    T = Scheme.of(BOOK, other.instance(BOOK, types))
                    self.assertTrue(one.covers(BOOK, T))
        self.assertGreater(seen[True], 20)

    @staticmethod
    def random_scheme(rng):
        T = random_type(rng, 2, 3)
        return Scheme.of(BOOK, T, marked=tuple(n for n in range(3) if rng.random() < 0.4))

    def test_errors(self):
        one = scheme(("made", 7, (A, B)))
        for call in (one.covers, one.common):
            with self.assertRaises(InvalidBook):
                call(PLAIN, None)
            with self.assertRaises(InvalidBook):
                call(None, None)
            for other in (None, A, *ODD):
                with self.assertRaises(InvalidScheme):
                    call(BOOK, other)
        with self.assertRaises(InvalidScheme):
            scheme(A).covers(PLAIN, one)
        with self.assertRaises(InvalidScheme):
            scheme(A).common(PLAIN, one)


class CommonTest(unittest.TestCase):
    def check(self, one, other, told):
        self.assertTrue(one.common(BOOK, other) == told, one.text(BOOK))
        self.assertTrue(other.common(BOOK, one) == told)

    def test_common(self):
        self.check(scheme(A), scheme(INT), scheme(INT))
        self.check(scheme(INT), scheme(STRING), None)
        self.check(scheme(A), scheme(A, 0), scheme(A, 0))
        self.check(scheme(("fn", A, B)), scheme(("fn", A, A)), scheme(("fn", A, A)))
        self.check(scheme(("fn", A, INT)), scheme(("fn", STRING, A)), scheme(("fn", STRING, INT)))
        self.check(scheme(("fn", A, A)), scheme(("fn", A, list_of(A))), None)
        self.check(scheme(A, 0), scheme(F), None)
        self.check(scheme(A, 0), scheme(list_of(A)), scheme(list_of(A), 0))
        self.check(scheme(A, 0), scheme(ref_of(A)), scheme(ref_of(A)))
        self.check(scheme(A, 0), scheme(("made", 7, (A, B))), scheme(("made", 7, (A, B)), 1))
        self.check(scheme(("tuple", (A, B)), 0), scheme(("tuple", (A, A))), scheme(("tuple", (A, A)), 0))
        self.check(scheme(A, 0), scheme(EXN), None)

    def test_by_the_oracle(self):
        rng = sampler(9)
        for _ in range(400):
            one, other = [CoversTest.random_scheme(rng) for _ in range(2)]
            moved = put_plain(other.body, [var(k + 3) for k in range(3)])
            marked = (*one.marks, *[mark + 3 for mark in other.marks])
            oracle = Oracle([("one", (), one.body, moved)], 6, marked)
            told = one.common(BOOK, other)
            if oracle.clash or not oracle.finite or oracle.unequal:
                self.assertIs(told, None)
                continue
            wanted = Scheme.of(BOOK, oracle.type_of(one.body), marked=tuple(sorted(oracle.musts)))
            self.assertTrue(told == wanted)
            self.assertTrue(one.covers(BOOK, told) and other.covers(BOOK, told))

    def test_too_great(self):
        one = scheme(("tuple", (A, A, sized(100))))
        other = scheme(("tuple", (sized(99), A, B)))
        self.assertEqual(len(one.common(BOOK, other)), 299)
        other = scheme(("tuple", (sized(150), A, B)))
        with self.assertRaises(TooMany) as caught:
            one.common(BOOK, other)
        self.assertEqual(caught.exception.limit, 300)
        self.assertIs(scheme(("tuple", (A, A, INT))).common(BOOK, scheme(("tuple", (sized(290), A, STRING)))), None)
