"""Writing: the one text of each tree."""

from letquay.errors import InvalidTree
from letquay.text.forms import MEMBERS, NODES, RECORDS, form_of
from letquay.text.literals import number_text, string_text
from letquay.text.trees import is_tree

# The number of the row EA, behind all others of expressions, and that of TA and of PA.
LAST_ROW = 10
LAST_TYPE_ROW = 3
LAST_PATTERN_ROW = 4

# For each form the row of the grammar to which it belongs, and its words. `$k` is the part k, which stands in
# row 0, or `$k:r` in the row r; `~(` is a `(` without a blank ahead of it.
TEXTS = {
    "type fn": (0, "$1:1 -> $2"),
    "pattern any": (LAST_PATTERN_ROW, "_"),
    "pattern name": (LAST_PATTERN_ROW, "$1"),
    "pattern int": (LAST_PATTERN_ROW, "$1"),
    "pattern string": (LAST_PATTERN_ROW, "$1"),
    "pattern tuple": (LAST_PATTERN_ROW, "$1"),
    "pattern as": (1, "$1 as $2:1"),
    "pattern or": (0, "$1:1 | $2"),
    "expression int": (LAST_ROW, "$1"),
    "expression string": (LAST_ROW, "$1"),
    "expression name": (LAST_ROW, "$1"),
    "expression con": (LAST_ROW, "$1"),
    "expression tuple": (LAST_ROW, "$1"),
    "expression fn": (LAST_ROW, "fn $1 end"),
    "expression call": (9, "$1:9 $2:10"),
    "expression let": (LAST_ROW, "let $1 = $2 in $3 end"),
    "expression letrec": (LAST_ROW, "let rec $1 in $2 end"),
    "expression case": (LAST_ROW, "case $1 of $2 end"),
    "expression if": (0, "if $1 then $2 else $3"),
    "expression raise": (0, "raise $1"),
    "expression handle": (1, "$1:1 handle $2 end"),
    "expression while": (LAST_ROW, "while $1 do $2 end"),
    "expression both": (3, "$1:4 andalso $2:3"),
    "expression either": (2, "$1:3 orelse $2:2"),
    "expression typed": (LAST_ROW, "( $1 : $2 )"),
    "declaration val": (0, "val $1 = $2"),
    "declaration rec": (0, "val rec $1"),
    "declaration type": (0, "type $1 $2 = $3"),
    "declaration data": (0, "datatype $1"),
    "declaration exception": (0, "exception $1 $2"),
    "declaration alias": (0, "exception $1 = $2"),
    "declaration structure": (0, "structure $1 = $2"),
    "declaration open": (0, "open $1"),
    "top signature": (0, "signature $1 = $2"),
    "top functor": (0, "functor $1 ~( $2 : $3 ) = $4"),
    "structure struct": (0, "struct $1 end"),
    "structure at": (0, "$1"),
    "structure apply": (0, "$1 ~( $2 )"),
    "structure seal": (0, "$1 :> $2"),
    "structure fit": (0, "$1 : $2"),
    "signature sig": (0, "sig $1 end"),
    "signature named": (0, "$1"),
    "signature where": (0, "$1 where type $3 $2 = $4"),
    "specification val": (0, "val $1 : $2"),
    "specification abbr": (0, "type $1 $2 = $3"),
    "specification data": (0, "datatype $1"),
    "specification exception": (0, "exception $1 $2"),
    "specification structure": (0, "structure $1 : $2"),
    "specification include": (0, "include $1"),
}

RECORD_TEXTS = {
    "row": "$0 $1 => $2",
    "function": "$0 = fn $1 end",
    "datatype": "$0 $1 = $2",
    "constructor": "$0 $1",
}

# What stands ahead of a part that can be None, if it is not.
OPTION_WORDS = {"closed?": "of", "type?": "of", "expression?": "when"}

# The row of each operator, and the rows in which what it is used on stands.
OPERATORS = {
    ":=": (4, 5, 5),
    "=": (5, 6, 6),
    "<": (5, 6, 6),
    "^": (7, 7, 8),
    "+": (7, 7, 8),
    "-": (7, 7, 8),
    "*": (8, 8, 9),
    "div": (8, 8, 9),
    "mod": (8, 8, 9),
}

SEPARATORS = {
    "rows": ("|", "row"),
    "functions": ("and", "function"),
    "group": ("and", "datatype"),
    "constructors": ("|", "constructor"),
    "declarations": ("", "declaration"),
    "specifications": ("", "specification"),
    "unit": ("\n", "top"),
}

# An item of what is still to be written is a token, or a triple (part, sort, row).


def _joined(parts, separator, sort, row):
    """The items of some parts, with a token between them unless it is empty."""
    items = []
    for part in parts:
        if items and separator:
            items.append(separator)
        items.append((part, sort, row))
    return items


def _filled(text, value, sorts):
    """The items of a text with parts of a value in it."""
    items = []
    for word in text.split():
        if word[0] == "$":
            index, _, row = word[1:].partition(":")
            items.append((value[int(index)], sorts[int(index)], int(row) if row else 0))
        else:
            items.append(word)
    return items


def _is_pair(tree):
    return tree is not None and tree[0] == "tuple" and len(tree[1]) == 2


def _type_form(tree):
    """The row and the items of a type whose form hangs on its parts."""
    if tree[0] == "var":
        return LAST_TYPE_ROW, ["'" + tree[1]]
    if tree[0] == "eqvar":
        return LAST_TYPE_ROW, ["''" + tree[1]]
    if tree[0] == "tuple":
        return (1, _joined(tree[1], "*", "type", 2)) if tree[1] else (LAST_TYPE_ROW, ["unit"])
    path = ".".join(tree[1])
    if len(tree[2]) == 1:
        return 2, [(tree[2][0], "type", 2), path]
    if tree[2]:
        return LAST_TYPE_ROW, ["(", *_joined(tree[2], ",", "type", 0), ")", path]
    return LAST_TYPE_ROW, [path]


def _constructor_form(pattern):
    """The row and the items of a pattern of a constructor."""
    path, carried = pattern[1:]
    if path == ("Cons",) and _is_pair(carried):
        return 2, [(carried[1][0], "pattern", 3), "::", (carried[1][1], "pattern", 2)]
    if carried is not None:
        return 3, [".".join(path), (carried, "pattern", LAST_PATTERN_ROW)]
    return LAST_PATTERN_ROW, ["[", "]"] if path == ("Nil",) else [".".join(path)]


def _operation_form(tree):
    word, operands = tree[1:]
    if len(operands) == 1:
        return LAST_ROW, [word, (operands[0], "expression", LAST_ROW)]
    row, left, right = OPERATORS[word]
    return row, [(operands[0], "expression", left), word, (operands[1], "expression", right)]


def _sequence_form(tree):
    """The row and the items of what is done one behind the other, from the first part to the last one."""
    parts = []
    while tree[0] == "then":
        parts.append(tree[1])
        tree = tree[2]
    return LAST_ROW, ["(", *_joined([*parts, tree], ";", "expression", 0), ")"]


def _expression_form(tree):
    """The row and the items of an expression that has a form of its own, or None."""
    if tree == ("con", ("Nil",)):
        return LAST_ROW, ["[", "]"]
    if tree[0] == "op":
        return _operation_form(tree)
    if tree[0] == "then":
        return _sequence_form(tree)
    if tree[0] == "call" and tree[1] == ("con", ("Cons",)) and _is_pair(tree[2]):
        first, rest = tree[2][1]
        return 6, [(first, "expression", 7), "::", (rest, "expression", 6)]
    return None


def _own_form(tree, sort):
    """The row and the items of a node that has a form of its own, or None if the table tells them."""
    if sort == "type" and tree[0] != "fn":
        return _type_form(tree)
    if sort == "pattern" and tree[0] == "con":
        return _constructor_form(tree)
    if sort == "expression":
        return _expression_form(tree)
    if sort == "specification" and tree[0] == "type":
        word = "eqtype" if tree[3] else "type"
        return 0, [word, (tree[1], "parameters", 0), (tree[2], "low", 0)]
    return None


def _node_items(tree, sort, row):
    """The items of a node, in parentheses if its row has a lower number than the one in which it stands."""
    found = _own_form(tree, sort)
    if found is None:
        key = f"{sort} {tree[0]}"
        own, text = TEXTS[key] if key in TEXTS else TEXTS[f"declaration {tree[0]}"]
        found = own, _filled(text, tree, ("", *form_of(sort, tree[0])))
    own, items = found
    return ["(", *items, ")"] if own < row else items


def _leaf_text(value, sort):
    if sort == "integer":
        return number_text(value)
    if sort == "string":
        return string_text(value)
    return value if isinstance(value, str) else ".".join(value)


def _parameter_items(params):
    names = ["'" + name for name in params]
    if len(names) < 2:
        return names
    items = ["(", names[0]]
    for name in names[1:]:
        items.extend([",", name])
    return [*items, ")"]


def _items_of(part, sort, row):
    """The items of a part of any sort."""
    if sort[-1] == "?":
        return [] if part is None else [OPTION_WORDS[sort], (part, sort[:-1], 0)]
    if sort in ("whole", "closed"):
        sort = "pattern" if sort == "whole" else "type"
    if sort in NODES:
        return _node_items(part, sort, row)
    if sort in RECORDS:
        return _filled(RECORD_TEXTS[sort], part, RECORDS[sort])
    if sort in SEPARATORS:
        separator, inner = SEPARATORS[sort]
        return _joined(part, separator, inner, 0)
    if sort in MEMBERS:
        return ["(", *_joined(part, ",", MEMBERS[sort], 0), ")"]
    if sort == "parameters":
        return _parameter_items(part)
    return [_leaf_text(part, sort)]


def _stands_close(left, right):
    """Whether no blank stands between two tokens."""
    if left == "\n" or right == "\n":
        return True
    return left in ("(", "~(", "[", "!") or right in (")", "]", ",", ";", "~(")


def _write(tree, sort):
    """The text of a tree of a sort."""
    if not is_tree(tree, sort):
        raise InvalidTree("this is no tree of the kind that is written here")
    todo = [(tree, sort, 0)]
    found = []
    left = "\n"
    while todo:
        item = todo.pop()
        if not isinstance(item, str):
            part, kind, row = item
            todo.extend(_items_of(part, kind, row)[::-1])
            continue
        found.append("" if _stands_close(left, item) else " ")
        found.append("(" if item == "~(" else item)
        left = item
    return "".join(found)


def write_type(tree):
    """The text of a type."""
    return _write(tree, "type")


def write_pattern(tree):
    """The text of a pattern."""
    return _write(tree, "whole")


def write_expression(tree):
    """The text of an expression."""
    return _write(tree, "expression")


def write_declaration(tree):
    """The text of a declaration."""
    return _write(tree, "top")


def write_structure(tree):
    """The text of a structure."""
    return _write(tree, "structure")


def write_signature(tree):
    """The text of a signature."""
    return _write(tree, "signature")


def write_unit(tree):
    """The text of a unit."""
    return _write(tree, "unit")
