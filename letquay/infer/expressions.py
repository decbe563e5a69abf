"""Expressions: their most general types, with derivations."""

from letquay.data.looking import check_scope
from letquay.errors import InvalidTree
from letquay.infer.lookups import looked_up
from letquay.infer.parts import is_final_tree
from letquay.infer.told import Telling, cases_with, derivation_of
from letquay.infer.walking import Walk, expression
from letquay.text.trees import is_expression
from letquay.types.schemes import scheme_of_type
from letquay.types.shapes import outline
from letquay.types.terms import text_with


def is_final(value):
    """Whether the value is an expression that is final."""
    return is_expression(value) and is_final_tree(value)


def _outlines(derivation):
    """A derivation with the outlines of its types, which can be compared however deep the types are."""
    rows, marked = derivation
    return [
        (place, outline(T), more if more[:1] and isinstance(more[0], int) else tuple([outline(U) for U in more]))
        for place, T, more in rows], marked


def _outlines_of_cases(cases):
    return [(place, outline(T), rows) for place, T, rows in cases]


class Typing:
    """What is told of a typed expression or declaration of values. It never changes."""

    def __init__(self, book, derivation, body, *, cases, scheme=None, names=None):
        self.body = body
        self.derivation = derivation
        self.scheme = scheme
        self.cases = cases
        self._names = {} if names is None else names
        self._text = text_with(book, body, derivation[1])

    @property
    def marked(self):
        """The ascending tuple of the variables that must admit equality."""
        return self.derivation[1]

    @property
    def names(self):
        """The schemes of the names that are declared, ascending."""
        return dict(self._names)

    def __eq__(self, other):
        if not isinstance(other, Typing) or self._names != other._names:
            return False
        same = _outlines(self.derivation) == _outlines(other.derivation)
        return same and _outlines_of_cases(self.cases) == _outlines_of_cases(other.cases)

    def __str__(self):
        return str(self._text)


def typed(book, face, tree):
    """The typing of an expression."""
    check_scope(book, face)
    if not is_expression(tree):
        raise InvalidTree("this is no expression")
    walk = Walk(book, looked_up(book, face, tree).found, False)
    expression(walk, tree, (), {})
    telling = Telling(walk)
    derivation = derivation_of(telling)
    body = derivation[0][0][1]
    scheme = scheme_of_type(body, derivation[1]) if is_final_tree(tree) else None
    return Typing(book, derivation, body, cases=cases_with(telling), scheme=scheme)
