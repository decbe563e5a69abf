"""The forms of all trees, as tables: for each sort of part its words, and for each word the sorts of its parts."""

from letquay.checks import is_integer
from letquay.text.names import is_high, is_high_path, is_low, is_low_path, is_type_path

LEAST_INTEGER = -(2 ** 62)
GREATEST_INTEGER = 2 ** 62 - 1
MAX_LITERAL = 1000

ONE_OPERAND = ("!", "ref", "text", "print", "read")
TWO_OPERANDS = ("+", "-", "*", "div", "mod", "<", "=", "^", ":=")

# The sorts of nodes. A "whole" pattern is no part of another one; "top" declarations are those of a unit.
NODES = (
    "type", "closed", "whole", "pattern", "expression", "declaration", "top", "structure", "signature",
    "specification",
)

# The sorts of parts in which no node can stand.
LEAVES = ("low", "high", "low path", "high path", "type path", "integer", "string", "operator", "boolean")

# What stands behind the word of a node. A sort with "?" behind it can be None.
FORMS = {
    "type var": ("low",),
    "type eqvar": ("low",),
    "type con": ("type path", "types"),
    "type fn": ("type", "type"),
    "type tuple": ("type members",),
    "closed con": ("type path", "closed types"),
    "closed fn": ("closed", "closed"),
    "closed tuple": ("closed members",),
    "pattern any": (),
    "pattern name": ("low",),
    "pattern int": ("integer",),
    "pattern string": ("string",),
    "pattern tuple": ("pattern members",),
    "pattern con": ("high path", "pattern?"),
    "pattern as": ("low", "pattern"),
    "pattern or": ("pattern", "pattern"),
    "expression int": ("integer",),
    "expression string": ("string",),
    "expression name": ("low path",),
    "expression con": ("high path",),
    "expression tuple": ("expression members",),
    "expression fn": ("rows",),
    "expression call": ("expression", "expression"),
    "expression let": ("whole", "expression", "expression"),
    "expression letrec": ("functions", "expression"),
    "expression case": ("expression", "rows"),
    "expression if": ("expression", "expression", "expression"),
    "expression raise": ("expression",),
    "expression handle": ("expression", "rows"),
    "expression then": ("expression", "expression"),
    "expression while": ("expression", "expression"),
    "expression both": ("expression", "expression"),
    "expression either": ("expression", "expression"),
    "expression typed": ("expression", "closed"),
    "expression op": ("operator", "operands"),
    "declaration val": ("whole", "expression"),
    "declaration rec": ("functions",),
    "declaration type": ("parameters", "low", "type"),
    "declaration data": ("group",),
    "declaration exception": ("high", "closed?"),
    "declaration alias": ("high", "high path"),
    "declaration structure": ("high", "structure"),
    "declaration open": ("high path",),
    "top signature": ("high", "signature"),
    "top functor": ("high", "high", "signature", "structure"),
    "structure struct": ("declarations",),
    "structure at": ("high path",),
    "structure apply": ("high", "structure"),
    "structure seal": ("structure", "signature"),
    "structure fit": ("structure", "signature"),
    "signature sig": ("specifications",),
    "signature named": ("high",),
    "signature where": ("signature", "type path", "parameters", "type"),
    "specification val": ("low", "type"),
    "specification type": ("parameters", "low", "boolean"),
    "specification abbr": ("parameters", "low", "type"),
    "specification data": ("group",),
    "specification exception": ("high", "closed?"),
    "specification structure": ("high", "signature"),
    "specification include": ("signature",),
}

# The sort of the entries of a tuple, with the least and the greatest number of them; 0 is no bound.
SEQUENCES = {
    "types": ("type", 0, 0),
    "closed types": ("closed", 0, 0),
    "one operand": ("expression", 1, 1),
    "two operands": ("expression", 2, 2),
    "declarations": ("declaration", 0, 0),
    "specifications": ("specification", 0, 0),
    "unit": ("top", 0, 0),
    "rows": ("row", 1, 0),
    "functions": ("function", 1, 0),
    "group": ("datatype", 1, 6),
    "constructors": ("constructor", 1, 12),
    "parameters": ("low", 0, 4),
}

# Tuples of trees, of which there are none, or two and more.
MEMBERS = {
    "type members": "type",
    "closed members": "closed",
    "pattern members": "pattern",
    "expression members": "expression",
}

RECORDS = {
    "row": ("whole", "expression?", "expression"),
    "function": ("low", "rows"),
    "datatype": ("parameters", "low", "constructors"),
    "constructor": ("high", "type?"),
}


def form_of(sort, word):
    """The sorts of the parts of a node, or None if no node of this sort has the word."""
    if sort == "whole":
        return FORMS.get(f"pattern {word}")
    if sort == "top" and f"top {word}" not in FORMS:
        return FORMS.get(f"declaration {word}")
    return FORMS.get(f"{sort} {word}")


def is_literal_integer(value):
    """Whether the value is an integer of 63 bits."""
    return is_integer(value) and LEAST_INTEGER <= value <= GREATEST_INTEGER


def is_literal_string(value):
    """Whether the value is a string that can stand in a tree."""
    if not isinstance(value, str) or len(value) > MAX_LITERAL:
        return False
    return all([" " <= letter <= "~" for letter in value])


def _is_leaf(sort, value):
    """Whether the value is a part of this sort, one without nodes in it and no integer."""
    if sort == "low":
        return is_low(value)
    if sort == "high":
        return is_high(value)
    if sort == "low path":
        return is_low_path(value)
    if sort == "high path":
        return is_high_path(value)
    if sort == "type path":
        return is_type_path(value)
    if sort == "string":
        return is_literal_string(value)
    if sort == "operator":
        return isinstance(value, str) and (value in ONE_OPERAND or value in TWO_OPERANDS)
    return isinstance(value, bool)


def _are_strings(values):
    return all([isinstance(value, str) for value in values])


def _are_short_paths(values):
    """Whether the values are tuples of one string."""
    if not all([isinstance(value, tuple) and len(value) == 1 for value in values]):
        return False
    return _are_strings([value[0] for value in values])


def are_leaves(sort, values):
    """Whether values are parts of this sort, one without nodes in it; equal names are looked at once."""
    if sort == "integer":
        return all([is_literal_integer(value) for value in values])
    if sort in ("low", "high", "operator") and _are_strings(values):
        return all([_is_leaf(sort, value) for value in sorted(set(values))])
    if sort in ("low path", "high path", "type path") and _are_short_paths(values):
        return all([_is_leaf(sort, (name,)) for name in sorted(set([value[0] for value in values]))])
    return all([_is_leaf(sort, value) for value in values])
