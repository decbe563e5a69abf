import itertools
import random
import unittest

from letquay.cases import rows as module
from letquay.cases.rows import (
    alternatives, example, fits, idle_alternatives, idle_rows, is_met, is_missing, is_told_of, is_value_of, meets, missing,
    taken_row)
from letquay.data.faces import Face, base_face
from letquay.data.looking import declared_group
from letquay.errors import InvalidBook, InvalidFace, InvalidOperation, InvalidPattern, InvalidType, TooMany
from letquay.text.reader import read_declaration, read_pattern
from letquay.text.trees import is_pattern
from letquay.types.books import Book
from tests.case_tools import (
    ANY, BOOK, BOOL, EXN, FACE, INT, PAIR, STRING, TREE, TYPES, cases, first_met, list_of, plain_alternatives, told_meets,
    tuple_of, values, vectors)
from tests.odd import ODD

BASE, FIRST = Book(), base_face()
YES, NO = ("con", ("True",), None), ("con", ("False",), None)
BOOLS = tuple_of(BOOL, BOOL)
ROWS = ((("tuple", (YES, ("name", "x"))), False), (("tuple", (("name", "x"), NO)), False))
THING = ("thing",)


def rows_of(*texts):
    """Rows with these texts; a text that ends in `when` is guarded."""
    return tuple((read_pattern(text.removesuffix(" when")), text.endswith(" when")) for text in texts)


class MeetingTest(unittest.TestCase):
    def test_constants(self):
        self.assertEqual((module.MAX_ALTERNATIVES, module.MAX_MISSING), (64, 200))

    def test_alternatives_in_order(self):
        self.assertEqual(alternatives(read_pattern("(1 | 2, 3 | 4)")), tuple(
            ("tuple", (("int", a), ("int", b))) for a in (1, 2) for b in (3, 4)))
        self.assertEqual(alternatives(read_pattern("x as (1 | 2)")), (
            ("as", "x", ("int", 1)), ("as", "x", ("int", 2))))
        self.assertEqual(alternatives(read_pattern("A (B | C (1 | 2))")), tuple(
            ("con", ("A",), p) for p in (("con", ("B",), None), ("con", ("C",), ("int", 1)), ("con", ("C",), ("int", 2)))))
        self.assertEqual(alternatives(ANY), (ANY,))
        for T, rows in cases(1, 300):
            for p, _ in rows:
                self.assertEqual(alternatives(p), tuple(plain_alternatives(p)))

    def test_sixty_four_alternatives(self):
        self.assertEqual(len(alternatives(read_pattern("(1|2, 1|2, 1|2, 1|2, 1|2, 1|2)"))), 64)
        deep = read_pattern("(1|2, 1|2, 1|2, 1|2, 1|2, 1|2, 1|2)")
        five = ("or", read_pattern("(1|2, 1|2, 1|2, 1|2, 1|2, 1|2)"), read_pattern("(_, _, _, _, _, 3)"))
        for p in (deep, five):
            for call in (lambda: alternatives(p), lambda: meets(1, p)):
                with self.assertRaises(TooMany) as caught:
                    call()
                self.assertEqual(caught.exception.limit, 64)
        # Far too many, which nobody can list.
        p = ("or", ("int", 1), ("int", 2))
        for _ in range(5):
            p = ("tuple", (p,) * 8)
            if not is_pattern(p):
                break
            with self.assertRaises(TooMany):
                alternatives(p)

    def test_meets(self):
        for text, value, bound in (
                ("x", 5, {"x": 5}), ("_", 5, {}), ("1", 1, {}), ("1", 2, None), ("1", True, None), ("1", "1", None),
                ("\"a\"", "a", {}), ("x as 1", 1, {"x": 1}), ("x as 1", 2, None),
                ("(x, y)", ("tuple", (1, 2)), {"x": 1, "y": 2}), ("(x, y)", ("tuple", (1, 2, 3)), None),
                ("()", ("tuple", ()), {}), ("()", ("thing",), None),
                ("A", ("con", "A", None), {}), ("S.A", ("con", "A", None), {}), ("A", ("con", "B", None), None),
                ("A", ("con", "A", 1), None), ("A x", ("con", "A", None), None), ("A x", ("con", "A", 1), {"x": 1}),
                ("A", ("exn", ("A",), None), {}), ("S.A", ("exn", ("A",), None), None), ("S.A", ("exn", ("S", "A"), None), {}),
                ("A x", ("exn", ("A",), 2), {"x": 2}), ("x", None, {"x": None}), ("(x, 1) | (1, x)", ("tuple", (1, 1)), {"x": 1}),
                ("(x, 1) | (2, x)", ("tuple", (2, 1)), {"x": 2}), ("(x, 3) | (2, x)", ("tuple", (2, 1)), {"x": 1}),
                ("(y, x)", ("tuple", (1, 2)), {"x": 2, "y": 1})):
            found = meets(value, read_pattern(text))
            self.assertEqual(found, bound, text)
            self.assertEqual(list(found or ()), sorted(found or ()))

    def test_any_value_can_be_passed(self):
        for value in ODD:
            self.assertEqual(meets(value, ("name", "x")), {"x": value})
            for text in ("8", "\"a\"", "(x, y)", "()", "A", "A x", "S.A x"):
                self.assertIs(meets(value, read_pattern(text)), None)
            self.assertEqual(meets(value, ("int", 1)), {} if isinstance(value, int) and repr(value) == "1" else None)
            self.assertTrue(is_met(value, ANY))
            for told in (("tuple", (ANY, ANY)), ("con", ("A",), None), ("con", ("A",), ANY), ("but exceptions", (("A",),))):
                self.assertIs(is_met(value, told), False)
        for value in ODD:
            if not is_pattern(value):
                for call in (lambda: alternatives(value), lambda: meets(1, value)):
                    self.assertRaises(InvalidPattern, call)

    def test_first_alternative_binds(self):
        for T, rows in cases(2, 300):
            for v in random.Random(3).sample(values(T, 2), min(20, len(values(T, 2)))):
                for p, _ in rows:
                    wanted = first_met(v, p)
                    found = meets(v, p)
                    self.assertEqual(found is None, wanted is None)
                    if found is not None:
                        self.assertEqual(list(found), sorted(wanted))

    def test_taken_row(self):
        rows = rows_of("1 when", "x when", "2", "y")
        for value, answers, found in (
                (1, (True, True, True, True), (0, {})), (1, (False, True, False, False), (1, {"x": 1})),
                (2, (False, False, False, False), (2, {})), (3, (True, False, False, False), (3, {"y": 3}))):
            self.assertEqual(taken_row(value, rows, answers), found)
        self.assertIs(taken_row(1, rows[:2], (False, False)), None)
        # A false guard asks no further alternative of its row.
        rows = rows_of("(x, 1) | (1, x) when", "_")
        self.assertEqual(taken_row(("tuple", (1, 1)), rows, (False, False)), (1, {}))

    def test_errors_of_taken_row(self):
        good = rows_of("1", "x")
        for rows in (*ODD, ((ANY, 0),), ((ANY,),), ((ANY, True, 1),), (good[0], (1, False)), list(good)):
            if rows not in (good,):
                self.assertRaises(InvalidPattern, taken_row, 1, rows, (True,))
        for answers in (*ODD, (True,), (True, 1), (True, True, True), [True, True], (True, None)):
            self.assertRaises(InvalidOperation, taken_row, 1, good, answers)
        many = ((wide_pattern(33), False), (wide_pattern(32), True))
        with self.assertRaises(TooMany):
            taken_row(1, many, (True, True))
        self.assertEqual(taken_row(1, ((wide_pattern(32), False), many[1]), (True, True)), (0, {}))

    def test_is_met(self):
        for told, good, bad in (
                (("but", (1, 3)), (0, 2, -1), (1, 3, "a", True, None, THING)),
                (("but", ("a",)), ("", "b"), ("a", 1, THING)),
                (("but exceptions", (("A",), ("S", "B"))), (THING, ("exn", ("B",), None), ("exn", ("C",), 1)),
                 (("exn", ("A",), None), ("exn", ("S", "B"), 2), 1, ("con", "C", None))),
                (("int", 1), (1,), (True, 2, "1")), (("string", "a"), ("a",), ("b", 1)),
                (("con", ("A",), None), (("con", "A", None), ("exn", ("A",), None)), (("con", "A", 1), THING)),
                (("con", ("A",), ("but", (1,))), (("con", "A", 2),), (("con", "A", 1), ("con", "A", None))),
                (("tuple", (ANY, ("int", 1))), (("tuple", (5, 1)),), (("tuple", (1, 5)), ("tuple", (1,))))):
            for value in good:
                self.assertIs(is_met(value, told), True, (value, told))
            for value in bad:
                self.assertIs(is_met(value, told), False, (value, told))
        for told in (*ODD, ("but", ()), ("but", (2, 1)), ("but", (1, 1)), ("but", (1, "a")), ("but", (True,)), ("but", [1]),
                     ("but", (2 ** 62,)), ("but exceptions", ()), ("but exceptions", (("a",),)),
                     ("but exceptions", (("B",), ("A",))), ("name", "x"), ("as", "x", ANY), ("or", ANY, ANY),
                     ("int", True), ("tuple", (ANY,)), ("con", ("A",)), ("con", (), None), ("string", "\n")):
            if told not in (ANY, ("tuple", ())):
                self.assertRaises(InvalidPattern, is_met, 1, told)


def wide_pattern(many):
    """A pattern with so many alternatives, not deep."""
    if many == 1:
        return ("int", 1)
    return ("or", wide_pattern(many // 2), wide_pattern(many - many // 2))


class FittingTest(unittest.TestCase):
    def test_fits(self):
        for T, texts in (
                (INT, ("1", "x", "_", "x as 1", "1 | 2")), (STRING, ("\"a\"", "x")), (BOOL, ("True", "S.False")),
                (EXN, ("Div", "Fail \"a\"", "Fail x", "S.Stop", "_")), (("var", 0), ("x", "_", "x as _", "x | x")),
                (("fn", INT, INT), ("x",)), (list_of(INT), ("[]", "1 :: _", "x :: y :: []", "S.Cons (1, _)")),
                (tuple_of(INT, BOOL), ("(1, True)", "(x, y)", "x")), (("tuple", ()), ("()", "x")),
                (("made", TREE, (INT,)), ("Leaf", "Node (_, 1, S.Leaf)")), (("made", PAIR, (INT, BOOL)), ("Pair (1, _)",)),
                (tuple_of(INT, INT), ("(x, _) | (_, x)",)), (("made", 6, (INT,)), ("x",)), (FACE.maker(("dark",))[1], ("x",))):
            for text in texts:
                self.assertIs(fits(BOOK, FACE, T, read_pattern(text)), True, text)
        for T, texts in (
                (INT, ("\"a\"", "()", "True", "Div", "x as True", "1 | \"a\"")), (STRING, ("1",)), (BOOL, ("Nil", "Div", "1")),
                (EXN, ("Div 1", "Fail", "Fail 1", "True", "Nope", "S.Nope", "x as 1")),
                (("var", 0), ("1", "()", "x as 1")), (("fn", INT, INT), ("()", "Div")),
                (list_of(INT), ("\"a\" :: _", "True", "Cons", "Nil 1", "S.Nope")), (tuple_of(INT, BOOL), ("(True, 1)", "()",
                                                                                                      "(1, True, 1)")),
                (tuple_of(INT, BOOL), ("(x, _) | (_, x)",)), (("made", PAIR, (INT, BOOL)), ("Pair (_, True)",))):
            for text in texts:
                self.assertIs(fits(BOOK, FACE, T, read_pattern(text)), False, text)
        for value in ODD:
            self.assertIs(fits(BOOK, FACE, INT, value), value == ("any",))

    def test_types_that_grow_without_end(self):
        book, face = declared_group(BASE, FIRST, read_declaration("datatype 'a t = N | C of ('a * 'a) t")[1])
        T = ("made", 7, (INT,))
        face = FIRST.opened(face)
        p = ("name", "x")
        for _ in range(58):
            p = ("con", ("C",), p)
        self.assertTrue(fits(book, face, T, p))
        self.assertEqual(len(missing(book, face, T, ((p, False),))), 58)
        self.assertEqual(example(book, face, T, ANY), ("con", "N", None))
        both = ("or", ("con", ("C",), ("name", "x")), ("con", ("C",), ("con", ("C",), ("name", "x"))))
        self.assertFalse(fits(book, face, T, both))

    def test_is_value_of(self):
        for T in TYPES:
            for v in values(T, 2)[:200]:
                self.assertIs(is_value_of(BOOK, FACE, T, v), True)
            for value in ODD:
                if value not in ("", "x", "X", "int", "var", 0, 1, -1, 7):
                    self.assertIs(is_value_of(BOOK, FACE, T, value), T == ("tuple", ()) and value == ("tuple", ()), value)
        for T, bad in ((INT, (True, "1", 2 ** 62, -2 ** 62 - 1, THING)), (STRING, ("a" * 1001, "\n", 1, THING)),
                       (BOOL, (True, ("con", "True", 1), ("con", ("True",), None), ("con", "Nil", None), THING)),
                       (EXN, (("exn", ("Div",), 1), ("exn", ("Fail",), None), ("exn", "Div", None), ("con", "Div", None),
                              ("exn", ("Nope",), None), ("exn", ("True",), None))),
                       (list_of(INT), (("con", "Cons", ("tuple", (1, 2))), THING)), (("var", 0), (1, ("thing", 1))),
                       (("made", 6, (INT,)), (1,)), (tuple_of(INT, INT), (("tuple", (1,)), ("tuple", [1, 2])))):
            for v in bad:
                self.assertIs(is_value_of(BOOK, FACE, T, v), False, (T, v))
        self.assertTrue(is_value_of(BOOK, FACE, STRING, "a" * 1000))
        long = ("con", "Nil", None)
        for _ in range(60):
            long = ("con", "Cons", ("tuple", (1, long)))
        self.assertTrue(is_value_of(BOOK, FACE, list_of(INT), long))

    def test_is_told_of(self):
        for T, good, bad in (
                (INT, (ANY, ("int", 1), ("but", (1, 2))), (("but", ("a",)), ("string", "a"), ("name", "x"))),
                (STRING, (("string", "a"), ("but", ("", "a"))), (("int", 1), ("but", (1,)))),
                (BOOL, (YES,), (("con", ("S", "True"), None), ("con", ("True",), ANY), ("con", ("Nil",), None), ("but", (1,)))),
                (EXN, (("con", ("Div",), None), ("con", ("S", "Fail"), ("but", ("a",))), ("but exceptions", (("Div",),))),
                 (("con", ("Nope",), None), ("con", ("Fail",), None), ("but exceptions", (("Nope",),)),
                  ("but exceptions", (("True",),)), YES)),
                (list_of(INT), (("con", ("Cons",), ("tuple", (("but", (1,)), ANY))), ("con", ("Nil",), None)),
                 (("con", ("Cons",), None), ("con", ("Cons",), ("tuple", (("string", "a"), ANY))))),
                (tuple_of(INT, BOOL), (("tuple", (("int", 1), NO)),), (("tuple", (NO, ("int", 1))), ("tuple", ()))),
                (("var", 0), (ANY,), (("int", 1), ("tuple", ()))), (("fn", INT, INT), (ANY,), (("but", (1,)),))):
            for told in good:
                self.assertIs(is_told_of(BOOK, FACE, T, told), True, told)
            for told in bad:
                self.assertIs(is_told_of(BOOK, FACE, T, told), False, told)
        for value in ODD:
            self.assertIs(is_told_of(BOOK, FACE, INT, value), value == ANY)

    def test_errors_and_their_order(self):
        far = FACE.with_type("far", (0, ("made", 99, ())))
        good = rows_of("x")
        for call, more in ((fits, (1,)), (is_value_of, (1,)), (is_told_of, (1,)), (missing, (good,)), (is_missing, (good, ())),
                           (idle_rows, (good,)), (idle_alternatives, (good,)), (example, (ANY,))):
            self.assertRaises(InvalidBook, call, None, None, None, *more)
            self.assertRaises(InvalidFace, call, BOOK, None, None, *more)
            self.assertRaises(InvalidFace, call, BOOK, far, INT, *more)
            self.assertRaises(InvalidFace, call, BASE, FACE, INT, *more)
            for T in (None, 1, ("made", 1, (INT,)), ("made", 99, ()), ("var", True)):
                self.assertRaises(InvalidType, call, BOOK, FACE, T, *more)
        many = ((wide_pattern(33), False), (wide_pattern(32), True))
        most = ((wide_pattern(32), False), (wide_pattern(32), True))
        for call, more in ((missing, ()), (is_missing, (None,)), (idle_rows, ()), (idle_alternatives, ())):
            for rows in (*ODD, rows_of("x", "\"a\""), ((ANY, 1),), ((ANY, None),), [(ANY, True)], rows_of("True")):
                self.assertRaises(InvalidPattern, call, BOOK, FACE, INT, rows, *more)
            self.assertRaises(TooMany, call, BOOK, FACE, INT, many, *more)
            call(BOOK, FACE, INT, most, *more)
            self.assertRaises(InvalidPattern, call, BOOK, FACE, STRING, many, *more)
        for told in (*ODD, YES, ("string", "a"), ("but", ("a",))):
            if told != ANY:
                self.assertRaises(InvalidPattern, example, BOOK, FACE, INT, told)


class MissingTest(unittest.TestCase):
    def test_examples_of_the_document(self):
        self.assertEqual(missing(BASE, FIRST, BOOLS, ROWS), (("tuple", (NO, YES)),))
        self.assertEqual(idle_rows(BASE, FIRST, BOOL, ((YES, True), (ANY, False), (NO, False))), (2,))
        self.assertEqual(missing(BASE, FIRST, INT, ((("int", 3), False), (("int", -1), False))), (("but", (-1, 3)),))

    def test_order_and_forms(self):
        for T, rows, told in (
                (INT, ("x when",), (ANY,)), (INT, ("x",), ()), (INT, ("2 | 1", "5 when"), (("but", (1, 2)),)),
                (STRING, ("\"b\"", "\"a\""), (("but", ("a", "b")),)),
                (BOOL, ("False",), (YES,)), (BOOL, ("True when",), (ANY,)), (list_of(INT), ("[]",), (("con", ("Cons",), ANY),)),
                (EXN, ("Fail \"a\"", "Div"), (("con", ("Fail",), ("but", ("a",))), ("but exceptions", (("Div",), ("Fail",))))),
                (EXN, ("Fail _", "S.Fail _"), (("but exceptions", (("Fail",), ("S", "Fail"))),)),
                (tuple_of(INT, INT), ("(x, 1)",), (("tuple", (ANY, ("but", (1,)))),)),
                (tuple_of(INT, INT), ("(1, 1)",), (("tuple", (("int", 1), ("but", (1,)))), ("tuple", (("but", (1,)), ANY)))),
                (tuple_of(tuple_of(INT, INT), INT), ("((x, y), 1)",),
                 (("tuple", (("tuple", (ANY, ANY)), ("but", (1,)))),)),
                (tuple_of(tuple_of(INT, INT), INT), ("(z, 1)",), (("tuple", (ANY, ("but", (1,)))),)),
                (list_of(BOOL), ("[]", "True :: []", "_ :: _ :: []"), (
                    ("con", ("Cons",), ("tuple", (NO, ("con", ("Nil",), None)))),
                    ("con", ("Cons",), ("tuple", (NO, ("con", ("Cons",), ("tuple", (ANY, ("con", ("Cons",), ANY))))))),
                    ("con", ("Cons",), ("tuple", (YES, ("con", ("Cons",), ("tuple", (ANY, ("con", ("Cons",), ANY))))))))),
                (("made", TREE, (INT,)), ("Leaf",), (("con", ("Node",), ANY),))):
            found = missing(BOOK, FACE, T, rows_of(*rows))
            if rows[0] == "[]" and len(rows) == 3:
                self.assertEqual(set(found), set(told))
            else:
                self.assertEqual(found, told, rows)

    def test_as_the_document_tells(self):
        for T, rows in cases(4, 1200):
            wanted = tuple(v[0] for v in vectors((T,), [[p] for p, guarded in rows if not guarded]))
            found = missing(BOOK, FACE, T, rows)
            self.assertEqual(found, wanted, (T, rows))
            self.assertTrue(all(is_told_of(BOOK, FACE, T, told) for told in found))

    def test_just_the_missing_values(self):
        for T, rows in cases(5, 150):
            found = missing(BOOK, FACE, T, rows)
            for v in values(T, 3)[:400]:
                gone = all(guarded or first_met(v, p) is None for p, guarded in rows)
                met = [told for told in found if is_met(v, told)]
                self.assertEqual(len(met), 1 if gone else 0)
                self.assertEqual([told for told in found if told_meets(v, told)], met)

    def test_two_hundred(self):
        for many, fails in ((200, False), (201, True)):
            T = ("tuple", (INT,) * many)
            rows = ((("tuple", (("int", 1),) * many), False),)
            if fails:
                with self.assertRaises(TooMany) as caught:
                    missing(BOOK, FACE, T, rows)
                self.assertEqual(caught.exception.limit, 200)
            else:
                self.assertEqual(len(missing(BOOK, FACE, T, rows)), 200)

    def test_columns_that_are_never_missing_are_not_gone_through(self):
        T = ("tuple", (BOOL,) * 40)
        rows = tuple((("tuple", tuple(YES if k == n else ANY for k in range(40))), False) for n in range(40))
        self.assertEqual(missing(BOOK, FACE, T, rows), (("tuple", (NO,) * 40),))
        self.assertEqual(missing(BOOK, FACE, T, rows + ((ANY, False),)), ())
        self.assertEqual(idle_rows(BOOK, FACE, T, rows + ((ANY, False), (ANY, True))), (41,))


class IsMissingTest(unittest.TestCase):
    def check(self, T, texts, good, bad):
        rows = rows_of(*texts)
        for value in good:
            self.assertIs(is_missing(BOOK, FACE, T, rows, value), True, value)
        for value in bad:
            self.assertIs(is_missing(BOOK, FACE, T, rows, value), False, value)

    def test_other_tuples(self):
        one, two, rest = ("int", 1), ("int", 2), ("but", (1, 2))
        self.check(INT, ("1",), ((("but", (1,)),), (two, rest), (rest, two), (rest, two, two), (("but", (1,)), two),
                                 (("but", (1, 7)), ("int", 7)), (("but", (1, 2)), ("but", (1, 3)))),
                   ((), (rest,), (ANY,), (one, two, rest), (two,), [("but", (1,))], (("but", (2,)), two), (YES,), (rest, None)))
        self.check(INT, ("x",), ((),), ((ANY,), (one,), (rest,)))
        self.check(INT, ("x when",), ((ANY,), (one, ("but", (1,)))), ((), (one,)))
        self.check(BOOL, ("True",), ((NO,), (NO, NO)), ((YES, NO), (ANY,), ()))
        self.check(EXN, ("Div",), ((("but exceptions", (("Div",),)),),
                                   (("but exceptions", (("Div",), ("End",))), ("con", ("End",), None)),
                                   (("but exceptions", (("Div",), ("Fail",))), ("con", ("Fail",), ANY))),
                   ((ANY,), (("but exceptions", (("Div",), ("End",))),), (("but exceptions", (("End",),)),),
                    (("but exceptions", (("Div",), ("Fail",))), ("con", ("Fail",), ("string", "a")))))
        self.check(list_of(BOOL), ("[]",), ((("con", ("Cons",), ANY),), (("con", ("Cons",), ("tuple", (YES, ANY))),
                                                                        ("con", ("Cons",), ("tuple", (NO, ANY))))),
                   ((("con", ("Cons",), ("tuple", (YES, ANY))),), (ANY,), (("con", ("S", "Cons"), ANY),)))

    def test_overlapping_and_finer(self):
        T = BOOLS
        self.check(T, ("(True, True)",), (
            (("tuple", (NO, ANY)), ("tuple", (ANY, NO))), (("tuple", (NO, ANY)), ("tuple", (YES, NO))),
            (("tuple", (NO, NO)), ("tuple", (NO, YES)), ("tuple", (YES, NO)))),
                   ((("tuple", (NO, ANY)),), (("tuple", (NO, ANY)), ("tuple", (ANY, ANY))), (ANY,),
                    (("tuple", (NO, NO)), ("tuple", (YES, NO)))))

    def test_told_ones(self):
        rng = random.Random(6)
        for T, rows in cases(7, 400):
            found = list(missing(BOOK, FACE, T, rows))
            self.assertTrue(is_missing(BOOK, FACE, T, rows, tuple(found)))
            rng.shuffle(found)
            self.assertTrue(is_missing(BOOK, FACE, T, rows, tuple(found)))
            if found:
                self.assertFalse(is_missing(BOOK, FACE, T, rows, tuple(found[1:])))
                self.assertTrue(is_missing(BOOK, FACE, T, rows, tuple(found + found[:1])))
                if found != [ANY]:
                    self.assertFalse(is_missing(BOOK, FACE, T, rows, (ANY,)) and not all(
                        all(guarded or first_met(v, p) is None for p, guarded in rows) for v in values(T, 2)))
        for value in ODD:
            self.assertIs(is_missing(BOOK, FACE, INT, rows_of("x"), value), value == ())


class IdleTest(unittest.TestCase):
    def test_rows_and_alternatives(self):
        for T, texts, idle, others in (
                (INT, ("1", "1 | 2", "2"), (2,), ((1, 0),)), (INT, ("1 when", "1", "1"), (2,), ()),
                (INT, ("x", "1"), (1,), ()), (INT, ("1 | 1",), (), ((0, 1),)), (INT, ("1 | 1 when", "1"), (), ((0, 1),)),
                (INT, ("_ | 1 | 2",), (), ((0, 1), (0, 2))), (BOOL, ("True", "False", "x"), (2,), ()),
                (BOOL, ("True", "False when", "x"), (), ()), (EXN, ("Div", "S.Div", "Div"), (2,), ()),
                (EXN, ("Match", "Div", "Size", "End", "Fail _", "Stop", "_"), (), ()),
                (BOOLS, ("(True, _)", "(_, True)", "(True, False) | (False, False)"), (), ((2, 0),)),
                (BOOLS, ("(True, _)", "(_, True)", "(False, False)", "x"), (3,), ())):
            rows = rows_of(*texts)
            self.assertEqual(idle_rows(BOOK, FACE, T, rows), idle, texts)
            self.assertEqual(idle_alternatives(BOOK, FACE, T, rows), others, texts)

    def test_by_values(self):
        for T, rows in cases(8, 150):
            found = values(T, 3)
            if len(found) > 3000:
                found = values(T, 2)
            if len(found) > 3000 or T == list_of(list_of(BOOL)):
                continue
            idle, others = [], []
            for k, (p, _) in enumerate(rows):
                met = [v for v in found if first_met(v, p) is not None]
                fresh = [v for v in met if all(g or first_met(v, q) is None for q, g in rows[:k])]
                if not fresh:
                    idle.append(k)
                    continue
                ways = plain_alternatives(p)
                for n, way in enumerate(ways):
                    if not any(first_met(v, way) is not None and all(first_met(v, w) is None for w in ways[:n]) for v in fresh):
                        others.append((k, n))
            self.assertEqual(idle_rows(BOOK, FACE, T, rows), tuple(idle), (T, rows))
            self.assertEqual(idle_alternatives(BOOK, FACE, T, rows), tuple(others), (T, rows))


class ExampleTest(unittest.TestCase):
    def test_of_all_told_patterns(self):
        for T, rows in cases(9, 400):
            for told in missing(BOOK, FACE, T, rows):
                found = example(BOOK, FACE, T, told)
                self.assertTrue(is_value_of(BOOK, FACE, T, found))
                self.assertTrue(is_met(found, told))
                self.assertTrue(all(guarded or meets(found, p) is None for p, guarded in rows))

    def test_of_types(self):
        for T in TYPES:
            self.assertTrue(is_value_of(BOOK, FACE, T, example(BOOK, FACE, T, ANY)))
        strings = tuple(sorted(str(n) for n in range(1500)))
        for T, keys in ((INT, tuple(range(1500))), (STRING, strings)):
            found = example(BOOK, FACE, T, ("but", keys))
            self.assertTrue(is_value_of(BOOK, FACE, T, found) and found not in keys)
        self.assertEqual(example(BOOK, FACE, EXN, ("but exceptions", (("Div",),))), THING)

    def test_of_deep_datatypes(self):
        book, face = BASE, FIRST
        for n in range(100):
            name = "t" + "abcdefghij"[n // 10] + "abcdefghij"[n % 10]
            last = "t" + "abcdefghij"[(n - 1) // 10] + "abcdefghij"[(n - 1) % 10] if n else "unit"
            group = read_declaration(f"datatype {name} = {name.upper()[:3]} of {last} * int")[1]
            book, more = declared_group(book, face, group)
            face = face.opened(more)
        T = ("made", len(book), ())
        self.assertTrue(is_value_of(book, face, T, example(book, face, T, ANY)))
        # The first constructor leads nowhere without the second one.
        book, more = declared_group(BASE, FIRST, read_declaration("datatype t = A of u and u = B of t | C of t list")[1])
        T = ("made", 7, ())
        self.assertTrue(is_value_of(book, FIRST.opened(more), T, example(book, FIRST.opened(more), T, ANY)))

    def test_faces_stay(self):
        before = [list(FACE), len(BOOK)]
        for T, rows in cases(10, 20):
            missing(BOOK, FACE, T, rows)
        self.assertEqual([list(FACE), len(BOOK)], before)
        self.assertEqual(missing(BASE, Face(), INT, rows_of("1")), (("but", (1,)),))


class CombinationsTest(unittest.TestCase):
    def test_taken_row_of_all_answers(self):
        for T, rows in cases(11, 60):
            for v in values(T, 2)[:10]:
                for answers in itertools.product((True, False), repeat=len(rows)):
                    wanted = None
                    for k, (p, guarded) in enumerate(rows):
                        if first_met(v, p) is not None and (not guarded or answers[k]):
                            wanted = k
                            break
                    found = taken_row(v, rows, answers)
                    self.assertEqual(None if found is None else found[0], wanted)


if __name__ == "__main__":
    unittest.main()
