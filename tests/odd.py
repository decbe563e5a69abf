"""Values that are no tree, type, book or the like, of each kind that a caller may pass by mistake."""

from letquay.types.books import Book


def nested(depth, make):
    value = 0
    for _ in range(depth):
        value = make(value)
    return value


ODD = (
    None, True, False, 0, 1, -1, 7, 10 ** 59, 10 ** 60, 10 ** 99, -(10 ** 99), "", "x", "X", "int", "var", "\n",
    "a" * 100000, (), ((),), ((), ()), (0,), (True,), (None,), ("x",), ("X",), ("var",), ("var", -1), ("var", True),
    ("int",), ("int", True), ("int", 10 ** 80), ("tuple",), ("tuple", ((),)), ("tuple", (("any",),)), ("name", "X"),
    ("con", (), None), ("con", ("a",), None), ("fn", ()), ("fn", ((),)), ("fn", ((None, None, None),)), ("nothing",),
    ("made", 0, ()), ("made", 1, (("var", 0),)), ("made", True, ()), ("made", 10 ** 70, ()), ("made", 99, ()),
    [], [0], ["int", 1], [()], ("tuple", []), ("int", [1]), {}, {"a": 1}, {"int": 1}, ({},), ("val", {}, []),
    nested(200, lambda value: (value,)), nested(200, lambda value: [value]), nested(200, lambda value: {0: value}),
    nested(100, lambda value: ("tuple", (value,))),
    nested(60, lambda value: ("raise", value)), nested(199, lambda value: ("fn", ("var", 0), value)),
    tuple(range(100)), Book(), (Book(),), ("con", Book()), ("typed", None, None), ("val", None, None),
)
