"""Parts of expressions and patterns: their places, and what is final."""

# Where the expressions stand that see the same names as the expression around them, by words.
PLAIN = {
    "int": (), "string": (), "name": (), "con": (), "call": (1, 2), "if": (1, 2, 3), "raise": (1,), "then": (1, 2),
    "while": (1, 2), "both": (1, 2), "either": (1, 2), "typed": (1,), "case": (1,), "handle": (1,), "fn": (),
}
# Where the rows stand, by words.
ROWS_AT = {"fn": 1, "case": 2, "handle": 2}
# Where tuples of expressions stand, by words.
MEMBERS_AT = {"tuple": 1, "op": 2}


def plain_parts(tree):
    """The pairs (steps, part) of the expressions in one, no let or letrec, that see the same names, in order."""
    word = tree[0]
    if word in MEMBERS_AT:
        at = MEMBERS_AT[word]
        return [((at, k), part) for k, part in enumerate(tree[at])]
    return [((at,), tree[at]) for at in PLAIN[word]]


def pattern_parts(pattern):
    """The pairs (steps, part) of the patterns directly in one, in order."""
    word = pattern[0]
    if word == "tuple":
        return [((1, k), part) for k, part in enumerate(pattern[1])]
    if word == "or":
        return [((1,), pattern[1]), ((2,), pattern[2])]
    if word == "as" or word == "con" and pattern[2] is not None:
        return [((2,), pattern[2])]
    return []


def names_of(pattern):
    """The list of the names that a pattern binds, in the order of the text."""
    if pattern[0] == "or":
        return names_of(pattern[1])
    found = [pattern[1]] if pattern[0] in ("name", "as") else []
    for _, part in pattern_parts(pattern):
        found.extend(names_of(part))
    return found


def is_final_tree(tree):
    """Whether an expression is final: all that it does is done at once, and makes nothing that can change."""
    word = tree[0]
    if word == "call":
        return tree[1][0] == "con" and is_final_tree(tree[2])
    if word == "tuple":
        return all([is_final_tree(part) for part in tree[1]])
    return word in ("int", "string", "name", "fn", "con") or word == "typed" and is_final_tree(tree[1])


def cases_of(rows):
    """The pairs (pattern, guarded) of rows."""
    return tuple([(row[0], row[1] is not None) for row in rows])
