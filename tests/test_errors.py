"""Part 1a: the errors."""

import unittest

from letquay import errors

DIRECT = (
    "InvalidTree", "InvalidType", "InvalidScheme", "InvalidBook", "InvalidFace", "InvalidScope", "InvalidPattern",
    "InvalidCode", "InvalidUnit", "InvalidOperation", "ParseError",
)
KEEPING = (
    ("InvalidNumber", IndexError, "given"), ("UnknownName", KeyError, "wanted"),
    ("NothingToUndo", LookupError, "many"), ("TooMany", OverflowError, "limit"),
    ("Refused", ArithmeticError, "reason"),
)
WORTHS = (None, 0, 7, "x", ("a", "b"), [1], {"a": 1}, 10 ** 99, -1, ("unbound", (0, 1), ("x",)))


class ErrorsTest(unittest.TestCase):
    def test_those_of_let_error(self):
        self.assertEqual(errors.LetError.__bases__, (ValueError,))
        for name in DIRECT:
            kind = getattr(errors, name)
            self.assertEqual(kind.__bases__, (errors.LetError,), name)
            self.assertFalse(issubclass(kind, (LookupError, ArithmeticError)), name)

    def test_made_with_a_message(self):
        for name in ("LetError", *DIRECT[:-1]):
            self.assertEqual(str(getattr(errors, name)("what is wrong")), "what is wrong")

    def test_those_of_built_in_classes(self):
        for name, base, kept in KEEPING:
            kind = getattr(errors, name)
            self.assertEqual(kind.__bases__, (base,), name)
            for worth in WORTHS:
                self.assertEqual(getattr(kind(worth), kept), worth)

    def test_a_parse_error_keeps_its_spot(self):
        for worth in (None, 0, 99):
            self.assertEqual(errors.ParseError(worth).spot, worth)

    def test_caught_by_no_other_class(self):
        kinds = [getattr(errors, name) for name in (*DIRECT, *[row[0] for row in KEEPING])]
        for one in kinds:
            for other in kinds:
                self.assertEqual(issubclass(one, other), one is other, (one, other))

    def test_raised_and_caught(self):
        for name in DIRECT:
            kind = getattr(errors, name)
            for caught in (kind, errors.LetError, ValueError):
                with self.assertRaises(caught):
                    raise kind("so")
        for name, base, _ in KEEPING:
            for caught in (getattr(errors, name), base):
                with self.assertRaises(caught):
                    raise getattr(errors, name)(3)
