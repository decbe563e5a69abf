"""The demands of an expression, as they come."""

from letquay.data.looking import check_scope
from letquay.errors import InvalidTree, Refused
from letquay.infer.lookups import looked_up
from letquay.infer.told import Telling, derivation_of
from letquay.infer.walking import Walk, expression
from letquay.text.trees import is_expression


def demands_of(book, face, tree):
    """The tuple of the demands, in order, up to the first one that is refused."""
    check_scope(book, face)
    if not is_expression(tree):
        raise InvalidTree("this is no expression")
    walk = Walk(book, looked_up(book, face, tree).found, True)
    try:
        expression(walk, tree, (), {})
    except Refused:
        return tuple(walk.told_demands)
    # A type of the derivation that is too great is told here, too.
    derivation_of(Telling(walk))
    return tuple(walk.told_demands)
