"""Reading: the tree with a text, by the table of the grammar.

What is still to be read stands in a list, the next symbol last, so that no text is too deep to be read.
"""

from letquay.errors import ParseError
from letquay.text.grammar import RULES
from letquay.text.names import HIGH_LETTERS
from letquay.text.tokens import tokens_of
from letquay.text.trees import is_tree

MOST_OPEN = 60


class Reading:
    """A text that is being read: what has been read so far, and how many tokens are open."""

    def __init__(self, text):
        self.tokens = tokens_of(text)
        self.at = 0
        self.held = []
        self.marks = []
        self.many_open = 0

    def next_kind(self):
        """The kind of the next token."""
        return self.tokens[self.at][0]

    def next_spot(self):
        """The index at which the next token begins."""
        return self.tokens[self.at][2]

    def take(self, kind):
        """Read the next token, which must be of a kind."""
        if self.next_kind() != kind:
            raise ParseError(self.next_spot())
        worth = self.tokens[self.at][1]
        if worth is not None:
            self.held.append(worth)
        self.at += 1

    def enter(self):
        """Open the next token."""
        self.many_open += 1
        if self.many_open > MOST_OPEN:
            raise ParseError(self.next_spot())

    def take_last(self, many):
        """Take away the last values, as a tuple."""
        first = len(self.held) - many
        found = tuple(self.held[first:])
        del self.held[first:]
        return found

    def take_marked(self):
        """Take away the values behind the last mark, as a tuple."""
        return self.take_last(len(self.held) - self.marks.pop())

    def push(self, worth):
        """Hold a value more."""
        self.held.append(worth)


def _one_or_tuple(found):
    return found[0] if len(found) == 1 else ("tuple", found)


def _sequence(found):
    """What is done one behind the other, nested to the right."""
    tree = found[-1]
    for part in found[-2::-1]:
        tree = ("then", part, tree)
    return tree


def _act_on_parts(reading, word):
    """Do what takes away values and gives one of them, or a tuple."""
    if word == "tuple":
        reading.push(reading.take_marked())
    elif word == "members":
        reading.push(_one_or_tuple(reading.take_marked()))
    elif word == "then":
        reading.push(_sequence(reading.take_marked()))
    elif word == "one":
        reading.push(reading.take_last(1))
    elif word == "swap":
        first, second = reading.take_last(2)
        reading.push(second)
        reading.push(first)
    elif word == "applied":
        args, path = reading.take_last(2)
        reading.push(("con", path, args))
    elif word == "cons":
        reading.push(("call", ("con", ("Cons",)), ("tuple", reading.take_last(2))))
    elif word == "pattern":
        reading.push(("con", ("Cons",), ("tuple", reading.take_last(2))))


def _act(reading, action):
    """Do an action of the grammar, without the sign ahead of it."""
    word, slash, count = action.partition("/")
    lead, _, rest = action.partition("-")
    if slash:
        reading.push((word, *reading.take_last(int(count))))
    elif word == "in":
        reading.enter()
    elif word == "out":
        reading.many_open -= 1
    elif word == "mark":
        reading.marks.append(len(reading.held))
    elif word == "unmark":
        reading.marks.pop()
    elif word in ("none", "true", "false"):
        reading.push({"none": None, "true": True, "false": False}[word])
    elif lead == "name":
        reading.push(rest)
    elif lead in ("op", "monad"):
        reading.push(("op", rest, reading.take_last(2 if lead == "op" else 1)))
    else:
        _act_on_parts(reading, word)


def _line_of(rule, kind):
    """What stands for a rule at a kind of token, or None."""
    line = RULES.get(f"{rule} {kind}")
    return RULES.get(rule) if line is None else line


def _read(text, rule, sort):
    """The tree of a sort with a text, by a rule of the grammar."""
    if not isinstance(text, str):
        raise ParseError(None)
    reading = Reading(text)
    todo = ["end of text", rule]
    while todo:
        symbol = todo.pop()
        if symbol[0] == "@":
            _act(reading, symbol[1:])
        elif symbol[0] in HIGH_LETTERS:
            line = _line_of(symbol, reading.next_kind())
            if line is None:
                raise ParseError(reading.next_spot())
            todo.extend(line.split()[::-1])
        else:
            reading.take(symbol)
    tree = reading.held[0]
    if not is_tree(tree, sort):
        raise ParseError(len(text))
    return tree


def read_type(text):
    """The type with a text."""
    return _read(text, "T0", "type")


def read_pattern(text):
    """The pattern with a text."""
    return _read(text, "P0", "whole")


def read_expression(text):
    """The expression with a text."""
    return _read(text, "E0", "expression")


def read_declaration(text):
    """The declaration with a text."""
    return _read(text, "D", "top")


def read_structure(text):
    """The structure with a text."""
    return _read(text, "M", "structure")


def read_signature(text):
    """The signature with a text."""
    return _read(text, "G", "signature")


def read_unit(text):
    """The unit with a text."""
    return _read(text, "Unit", "unit")
