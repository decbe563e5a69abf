"""Declarations of values: their typings, and the judge of their derivations."""

from letquay.data.looking import check_scope
from letquay.errors import InvalidTree, Refused
from letquay.infer.derivations import is_right_declaration
from letquay.infer.expressions import Typing
from letquay.infer.lookups import looked_up_values
from letquay.infer.parts import is_final_tree, names_of
from letquay.infer.told import Telling, cases_with, derivation_of
from letquay.infer.walking import Walk, bound_by, functions_of, unlike
from letquay.text.trees import is_declaration
from letquay.types.schemes import scheme_of_type


def _check_values(tree):
    if not is_declaration(tree) or tree[0] not in ("val", "rec"):
        raise InvalidTree("this is no declaration of values")


def _bound(walk, tree):
    """The pair of the locals that are declared, by names in the order of the text, and of the first node."""
    if tree[0] == "rec":
        bound = functions_of(walk, tree[1], (1,), {})
        return walk.generalized((), bound, {}), bound[tree[1][0][0]]
    bound = bound_by(walk, tree[1], tree[2], (), {})
    found = walk.generalized((), bound, {}) if is_final_tree(tree[2]) else unlike(bound)
    return {name: found[name] for name in names_of(tree[1])}, walk.nodes[(2,)]


def _check_open(walk, bound):
    """Refuse the first name with a variable that is not generalized."""
    for name, local in bound.items():
        if len(local.general) < len(walk.graph.variables_below(local.node)):
            raise Refused(("open", (1,), name))


def typed_values(book, face, tree):
    """The typing of a declaration of values."""
    check_scope(book, face)
    _check_values(tree)
    return values_typed(book, face, tree)


def values_typed(book, face, tree):
    """What `typed_values` tells, for what has been looked at already."""
    walk = Walk(book, looked_up_values(book, face, tree).found, False)
    bound, first = _bound(walk, tree)
    telling = Telling(walk)
    derivation = derivation_of(telling)
    _check_open(walk, bound)
    names = {
        name: scheme_of_type(telling.type_of(bound[name].node), derivation[1]) for name in sorted(bound)}
    return Typing(book, derivation, telling.type_of(first), cases=cases_with(telling), names=names)


def is_derivation_of(book, face, tree, value):
    """Whether the value is a right derivation of a declaration of values."""
    check_scope(book, face)
    _check_values(tree)
    return is_right_declaration(book, looked_up_values(book, face, tree), tree, value)
