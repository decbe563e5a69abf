"""Cutting: which items of a table a signature lets stand.

A shape is a dict from the pairs (space, name) of the items to `None`, or to the shape of a structure.
"""

from letquay.rules.values import item_of


def _shape_of_specification(scope, tree):
    word = tree[0]
    if word == "val":
        return {("value", tree[1]): None}
    if word == "data":
        return {("tag", name): None for _, _, constructors in tree[1] for name, _ in constructors}
    if word == "exception":
        return {("tag", tree[1]): None}
    if word == "structure":
        return {("structure", tree[1]): shape_of(scope, tree[2])}
    return shape_of(scope, tree[1]) if word == "include" else {}


def shape_of(scope, tree):
    """The shape of a signature."""
    while tree[0] == "where":
        tree = tree[1]
    if tree[0] == "named":
        return item_of(scope, "signature", tree[1])[1]
    found = {}
    for specification in tree[1]:
        found.update(_shape_of_specification(scope, specification))
    return found


def cut(table, shape):
    """The table with the items of a shape alone."""
    items = {}
    for key, inner in shape.items():
        items[key] = table[1][key] if inner is None else cut(table[1][key], inner)
    return ("table", items)
