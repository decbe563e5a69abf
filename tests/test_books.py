"""[2.1], [2.2] and part 2a: books."""

import unittest

from letquay.errors import InvalidNumber, InvalidOperation
from letquay.types.books import MAX_ARITY, Book
from tests.odd import ODD

A = ("var", 0)
B = ("var", 1)
INT = ("made", 1, ())
ROW = ("t", 0, (), None)


def fn_chain(size):
    """A type of an odd size."""
    kind = INT
    for _ in range((size - 1) // 2):
        kind = ("fn", INT, kind)
    return kind


class FirstStampsTest(unittest.TestCase):
    def test_what_a_book_tells(self):
        book = Book()
        self.assertEqual([book.printed(k) for k in range(1, 7)], ["int", "string", "bool", "exn", "list", "ref"])
        self.assertEqual([book.arity(k) for k in range(1, 7)], [0, 0, 0, 0, 1, 1])
        self.assertEqual([book.asks(k) for k in range(1, 7)], [(), (), (), None, (0,), ()])
        self.assertEqual([book.constructors(k) for k in (1, 2, 4, 6)], [None] * 4)
        self.assertEqual(book.constructors(3), (("True", None), ("False", None)))
        self.assertEqual(book.constructors(5), (("Nil", None), ("Cons", ("tuple", (A, ("made", 5, (A,)))))))
        self.assertEqual(MAX_ARITY, 4)

    def test_what_is_no_stamp(self):
        book = Book()
        for stamp in (0, -1, 7, True, None, "1", (1,), [1], 10 ** 70, {}, book):
            for call in (book.printed, book.arity, book.asks, book.constructors):
                with self.assertRaises(InvalidNumber) as caught:
                    call(stamp)
                self.assertIs(caught.exception.given, stamp)


class WithStampsTest(unittest.TestCase):
    def test_more_stamps(self):
        rows = (("tree", 1, (0,), (("Leaf", None), ("Node", ("tuple", (A, ("made", 7, (A,)), ("made", 8, ())))))),
                ("u", 0, None, None), ("v", 4, (1, 3), (("V", ("fn", ("var", 3), ("made", 8, ()))),)))
        book, stamps = Book().with_stamps(rows)
        self.assertEqual(stamps, (7, 8, 9))
        for row, stamp in zip(rows, stamps):
            told = (book.printed(stamp), book.arity(stamp), book.asks(stamp), book.constructors(stamp))
            self.assertEqual(told, row)
        self.assertEqual(book.printed(6), "ref")
        again, more = book.with_stamps((ROW,))
        self.assertEqual((more, len(again), again.printed(9)), ((10,), 10, "v"))

    def test_none_more(self):
        book, stamps = Book().with_stamps(())
        self.assertEqual((book == Book(), stamps), (True, ()))

    def test_a_book_stays_as_it_is(self):
        book = Book()
        book.with_stamps((ROW, ROW))
        self.assertEqual((len(book), str(book), book == Book()), (6, "book of 6 stamps", True))
        with self.assertRaises(InvalidNumber):
            book.printed(7)

    def test_right_rows(self):
        for row in (
                ("t", 4, (0, 1, 2, 3), None), ("abcdefgh", 0, None, None), ("int", 0, (), None), ("t", 1, None, None),
                ("t", 2, (), (("A", B),)), ("t", 2, (1,), (("A", A), ("B", None))), ("t", 0, (), (("A", ("tuple", ())),)),
                ("t", 0, None, (("A", INT),)), ("t", 0, (), (("A", fn_chain(299)),)), ("t", 1, (0,), (("A", None),)),
                ("t", 0, (), tuple((f"A{chr(97 + k)}", None) for k in range(26)))):
            book, stamps = Book().with_stamps((row,))
            self.assertEqual((book.constructors(7), stamps), (row[3], (7,)), row)

    def test_one_wrong_thing_each(self):
        wrong = [
            ("T", 0, (), None), ("ref", 0, (), None), ("abcdefghi", 0, (), None), ("", 0, (), None), (1, 0, (), None),
            ("t", 5, (), None), ("t", -1, (), None), ("t", True, (), None), ("t", None, (), None), ("t", "0", (), None),
            ("t", 2, (1, 0), None), ("t", 2, (0, 0), None), ("t", 2, (2,), None), ("t", 2, (-1,), None),
            ("t", 2, [0], None), ("t", 2, (True,), None), ("t", 2, 0, None), ("t", 2, (0, 1, 2), None), ("t", 0, (0,), None),
            ("t", 0, (), ()), ("t", 0, (), [("A", None)]), ("t", 0, (), (("a", None),)), ("t", 0, (), (("A",),)),
            ("t", 0, (), (("A", None), ("A", INT))), ("t", 0, (), (["A", None],)), ("t", 0, (), (("A", None, None),)),
            ("t", 0, (), (("A", A),)), ("t", 1, (), (("A", B),)), ("t", 1, (), (("A", ("fn", A, B)),)),
            ("t", 0, (), (("A", ("made", 9, ())),)), ("t", 0, (), (("A", ("made", 7, (INT,))),)),
            ("t", 1, (), (("A", ("made", 5, ())),)), ("t", 0, (), (("A", ("made", 0, ())),)),
            ("t", 0, (), (("A", ("tuple", (INT,))),)), ("t", 0, (), (("A", ("made", True, ())),)),
            ("t", 0, (), (("A", ("fn", INT)),)), ("t", 0, (), (("A", ("tuple", [INT, INT])),)),
            ("t", 0, (), (("A", fn_chain(301)),)), ("t", 0, (), (("A", 1),)), ("t", 0, (), (("A", ("list",)),)),
            ("t", 0, ()), ("t", 0, (), None, None), ["t", 0, (), None], (), "t"]
        for row in wrong:
            for rows in ((row,), (ROW, row), (row, ROW)):
                with self.assertRaises(InvalidOperation):
                    Book().with_stamps(rows)

    def test_odd_rows(self):
        for value in ODD:
            if value == ():
                continue
            with self.assertRaises(InvalidOperation):
                Book().with_stamps(value)
            for row, right in (
                    ((value, 0, (), None), value in ("x", "int", "var")), (("t", value, (), None), type(value) is int
                     and 0 <= value <= 4), (("t", 0, value, None), value is None), (("t", 0, (), value), value is None),
                    (("t", 0, (), (("A", value),)), value is None), (("t", 0, (), ((value, None),)), value == "X"),
                    (("t", 0, (), (value,)), False)):
                if right:
                    self.assertEqual(Book().with_stamps((row,))[1], (7,))
                    continue
                with self.assertRaises(InvalidOperation):
                    Book().with_stamps((row,))

    def test_the_argument_is_not_changed(self):
        rows = [("t", 0, (), None)]
        with self.assertRaises(InvalidOperation):
            Book().with_stamps(rows)
        self.assertEqual(rows, [("t", 0, (), None)])


class BookValuesTest(unittest.TestCase):
    def test_equality(self):
        one = Book().with_stamps((ROW,))[0]
        self.assertTrue(one == Book().with_stamps((ROW,))[0])
        self.assertFalse(one != Book().with_stamps((ROW,))[0])
        for other in (Book(), Book().with_stamps((("u", 0, (), None),))[0], Book().with_stamps((ROW, ROW))[0],
                      Book().with_stamps((("t", 0, None, None),))[0], *ODD):
            self.assertFalse(one == other)
            self.assertTrue(one != other)
        row = ("u", 1, (0,), (("A", fn_chain(299)),))
        self.assertTrue(Book().with_stamps((row,))[0] == Book().with_stamps((row,))[0])
        two = Book().with_stamps((ROW,))[0].with_stamps((row,))[0]
        self.assertTrue(two == Book().with_stamps((ROW, row))[0])

    def test_length_and_text(self):
        book = Book().with_stamps((ROW, ROW))[0]
        self.assertEqual((len(Book()), str(Book())), (6, "book of 6 stamps"))
        self.assertEqual((len(book), str(book)), (8, "book of 8 stamps"))

    def test_no_iteration(self):
        with self.assertRaises(TypeError):
            iter(Book())
        with self.assertRaises(TypeError):
            list(Book())
