"""Reading: the tree with a text, by the table of the grammar.

What is still to be read stands in a list, the next item last, so that no text is too deep to be read. An item is a
kind of token, rules one behind the other with blanks between them, or an action as a triple (word, count, rest): the
count is that of the parts of a node that is made, or 0, and the rest is what stands behind the word.
"""

from letquay.errors import ParseError
from letquay.text.grammar import RULES
from letquay.text.names import HIGH_LETTERS
from letquay.text.tokens import tokens_of
from letquay.text.trees import is_tree

MOST_OPEN = 60


def _action(symbol):
    """An action of the grammar as a triple."""
    word, slash, count = symbol[1:].partition("/")
    if slash:
        return ("make" if int(count) > 0 else "leaf", int(count), word)
    word, _, rest = word.partition("-")
    return (word, 0, rest)


def _items(symbols):
    """The items of symbols, the next one last, where rules that stand side by side are one item."""
    found = []
    rules = ""
    for symbol in symbols:
        if symbol[0] in HIGH_LETTERS:
            rules = f"{rules} {symbol}" if rules else symbol
            continue
        if rules:
            found.append(rules)
            rules = ""
        found.append(_action(symbol) if symbol[0] == "@" else symbol)
    if rules:
        found.append(rules)
    return found[::-1]


def _expanded(rules, kind):
    """The items that stand for rules at a kind of token, the next one last, or None if no text has this token there.

    Nothing is read ahead of the first token, so rules ahead of it are expanded too.
    """
    ahead = []
    todo = rules.split()[::-1]
    while todo and (todo[-1][0] == "@" or todo[-1][0] in HIGH_LETTERS):
        symbol = todo.pop()
        if symbol[0] == "@":
            ahead.append(_action(symbol))
            continue
        line = RULES.get(f"{symbol} {kind}")
        if line is None:
            line = RULES.get(symbol)
        if line is None:
            return None
        todo.extend(line.split()[::-1])
    return [*_items(todo[::-1]), *ahead[::-1]]


class Reading:
    """A text that is being read: what has been read so far, and how many tokens are open.

    What stands for rules at a kind of token is looked up once, and then is in `lines`.
    """

    def __init__(self, text):
        self.tokens = tokens_of(text)
        self.position = 0
        self.held = []
        self.marks = []
        self.many_open = 0
        self.lines = {}

    def next_spot(self):
        """The index at which the next token begins."""
        return self.tokens[self.position][2]

    def enter(self):
        """Open the next token."""
        self.many_open += 1
        if self.many_open > MOST_OPEN:
            raise ParseError(self.next_spot())

    def leave(self):
        """Close the token that was opened last."""
        self.many_open -= 1

    def take_last(self, many):
        """Take away the last values, as a tuple."""
        first = len(self.held) - many
        found = tuple(self.held[first:])
        del self.held[first:]
        return found

    def take_marked(self):
        """Take away the values behind the last mark, as a tuple."""
        return self.take_last(len(self.held) - self.marks.pop())

    def push(self, worth):
        """Hold a value more."""
        self.held.append(worth)

    def line_at(self, rules, kind):
        """The items that stand for rules at the next token, which is of a kind."""
        key = (rules, kind)
        if key not in self.lines:
            self.lines[key] = _expanded(rules, kind)
        line = self.lines[key]
        if line is None:
            raise ParseError(self.next_spot())
        return line

    def run(self, rule):
        """Read the whole text by a rule, and give back its tree."""
        todo = ["end of text", rule]
        held, lines = self.held, self.lines
        kind, worth, _ = self.tokens[0]
        while todo:
            item = todo.pop()
            if isinstance(item, tuple):
                word, count, rest = item
                if count > 0:
                    held[-count:] = [(rest, *held[-count:])]
                else:
                    action = ACTIONS[word]
                    action(self, rest)
            elif item == kind:
                if worth is not None:
                    held.append(worth)
                self.position += 1
                if todo:
                    kind, worth, _ = self.tokens[self.position]
            elif item[0] in HIGH_LETTERS:
                line = lines.get((item, kind))
                todo.extend(self.line_at(item, kind) if line is None else line)
            else:
                raise ParseError(self.next_spot())
        return held[0]


def _one_or_tuple(found):
    return found[0] if len(found) == 1 else ("tuple", found)


def _sequence(found):
    """What is done one behind the other, nested to the right."""
    tree = found[-1]
    for part in found[-2::-1]:
        tree = ("then", part, tree)
    return tree


def _leaf(reading, rest):
    reading.push((rest,))


def _enter(reading, rest):
    reading.enter()


def _leave(reading, rest):
    reading.leave()


def _mark(reading, rest):
    reading.marks.append(len(reading.held))


def _unmark(reading, rest):
    reading.marks.pop()


def _none(reading, rest):
    reading.push(None)


def _true(reading, rest):
    reading.push(True)


def _false(reading, rest):
    reading.push(False)


def _name(reading, rest):
    reading.push(rest)


def _op(reading, rest):
    reading.push(("op", rest, reading.take_last(2)))


def _monad(reading, rest):
    reading.push(("op", rest, reading.take_last(1)))


def _tuple(reading, rest):
    reading.push(reading.take_marked())


def _members(reading, rest):
    reading.push(_one_or_tuple(reading.take_marked()))


def _then(reading, rest):
    reading.push(_sequence(reading.take_marked()))


def _one(reading, rest):
    reading.push(reading.take_last(1))


def _swap(reading, rest):
    first, second = reading.take_last(2)
    reading.push(second)
    reading.push(first)


def _applied(reading, rest):
    args, path = reading.take_last(2)
    reading.push(("con", path, args))


def _cons(reading, rest):
    reading.push(("call", ("con", ("Cons",)), ("tuple", reading.take_last(2))))


def _pattern(reading, rest):
    reading.push(("con", ("Cons",), ("tuple", reading.take_last(2))))


ACTIONS = {
    "leaf": _leaf, "in": _enter, "out": _leave, "mark": _mark, "unmark": _unmark, "none": _none, "true": _true,
    "false": _false, "name": _name, "op": _op, "monad": _monad, "tuple": _tuple, "members": _members, "then": _then,
    "one": _one, "swap": _swap, "applied": _applied, "cons": _cons, "pattern": _pattern,
}


def _read(text, rule, sort):
    """The tree of a sort with a text, by a rule of the grammar."""
    if not isinstance(text, str):
        raise ParseError(None)
    tree = Reading(text).run(rule)
    if not is_tree(tree, sort):
        raise ParseError(len(text))
    return tree


def read_type(text):
    """The type with a text."""
    return _read(text, "T0", "type")


def read_pattern(text):
    """The pattern with a text."""
    return _read(text, "P0", "whole")


def read_expression(text):
    """The expression with a text."""
    return _read(text, "E0", "expression")


def read_declaration(text):
    """The declaration with a text."""
    return _read(text, "D", "top")


def read_structure(text):
    """The structure with a text."""
    return _read(text, "M", "structure")


def read_signature(text):
    """The signature with a text."""
    return _read(text, "G", "signature")


def read_unit(text):
    """The unit with a text."""
    return _read(text, "Unit", "unit")
