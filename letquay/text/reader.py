"""Reading: the tree with a text, by the table of the grammar.

What is still to be read stands in a list, the next item last, so that no text is too deep to be read. An item is a
kind of token, rules one behind the other with blanks between them, or an action as a pair (word, count).
"""

from letquay.errors import ParseError
from letquay.text.grammar import RULES
from letquay.text.names import HIGH_LETTERS
from letquay.text.tokens import tokens_of
from letquay.text.trees import is_tree

MOST_OPEN = 60


def _action(symbol):
    """An action of the grammar as a pair; the count is 0 where there is none."""
    word, slash, count = symbol[1:].partition("/")
    return (word, int(count)) if slash else (symbol[1:], 0)


def _items(symbols):
    """The items of symbols, the next one last, where rules that stand side by side are one item."""
    found = []
    rules = ""
    for symbol in symbols:
        if symbol[0] in HIGH_LETTERS:
            rules = f"{rules} {symbol}" if rules else symbol
            continue
        if rules:
            found.append(rules)
            rules = ""
        found.append(_action(symbol) if symbol[0] == "@" else symbol)
    if rules:
        found.append(rules)
    return found[::-1]


def _expanded(rules, kind):
    """The items that stand for rules at a kind of token, the next one last, or None if no text has this token there.

    Nothing is read ahead of the first token, so rules ahead of it are expanded too.
    """
    ahead = []
    todo = rules.split()[::-1]
    while todo and (todo[-1][0] == "@" or todo[-1][0] in HIGH_LETTERS):
        symbol = todo.pop()
        if symbol[0] == "@":
            ahead.append(_action(symbol))
            continue
        line = RULES.get(f"{symbol} {kind}")
        if line is None:
            line = RULES.get(symbol)
        if line is None:
            return None
        todo.extend(line.split()[::-1])
    return [*_items(todo[::-1]), *ahead[::-1]]


class Reading:
    """A text that is being read: what has been read so far, and how many tokens are open.

    What stands for rules at a kind of token is looked up once, and then is in `lines`.
    """

    def __init__(self, text):
        self.tokens = tokens_of(text)
        self.position = 0
        self.held = []
        self.marks = []
        self.many_open = 0
        self.lines = {}

    def next_spot(self):
        """The index at which the next token begins."""
        return self.tokens[self.position][2]

    def enter(self):
        """Open the next token."""
        self.many_open += 1
        if self.many_open > MOST_OPEN:
            raise ParseError(self.next_spot())

    def take_last(self, many):
        """Take away the last values, as a tuple."""
        first = len(self.held) - many
        found = tuple(self.held[first:])
        del self.held[first:]
        return found

    def take_marked(self):
        """Take away the values behind the last mark, as a tuple."""
        return self.take_last(len(self.held) - self.marks.pop())

    def push(self, worth):
        """Hold a value more."""
        self.held.append(worth)

    def make(self, word, count):
        """Make a node of the last values."""
        first = len(self.held) - count
        self.held[first:] = [(word, *self.held[first:])]

    def line_at(self, rules, kind):
        """The items that stand for rules at the next token, which is of a kind."""
        key = (rules, kind)
        if key not in self.lines:
            self.lines[key] = _expanded(rules, kind)
        line = self.lines[key]
        if line is None:
            raise ParseError(self.next_spot())
        return line

    def run(self, rule):
        """Read the whole text by a rule, and give back its tree."""
        todo = ["end of text", rule]
        kind, worth, _ = self.tokens[0]
        while todo:
            item = todo.pop()
            if isinstance(item, tuple):
                word, count = item
                if count > 0:
                    self.make(word, count)
                else:
                    _act(self, word)
            elif item == kind:
                if worth is not None:
                    self.held.append(worth)
                self.position += 1
                if todo:
                    kind, worth, _ = self.tokens[self.position]
            elif item[0] in HIGH_LETTERS:
                todo.extend(self.line_at(item, kind))
            else:
                raise ParseError(self.next_spot())
        return self.held[0]


def _one_or_tuple(found):
    return found[0] if len(found) == 1 else ("tuple", found)


def _sequence(found):
    """What is done one behind the other, nested to the right."""
    tree = found[-1]
    for part in found[-2::-1]:
        tree = ("then", part, tree)
    return tree


def _act_on_parts(reading, word):
    """Do what takes away values and gives one of them, or a tuple."""
    if word == "tuple":
        reading.push(reading.take_marked())
    elif word == "members":
        reading.push(_one_or_tuple(reading.take_marked()))
    elif word == "then":
        reading.push(_sequence(reading.take_marked()))
    elif word == "one":
        reading.push(reading.take_last(1))
    elif word == "swap":
        first, second = reading.take_last(2)
        reading.push(second)
        reading.push(first)
    elif word == "applied":
        args, path = reading.take_last(2)
        reading.push(("con", path, args))
    elif word == "cons":
        reading.push(("call", ("con", ("Cons",)), ("tuple", reading.take_last(2))))
    elif word == "pattern":
        reading.push(("con", ("Cons",), ("tuple", reading.take_last(2))))


def _act(reading, word):
    """Do an action of the grammar that has no count, or the count 0."""
    lead, _, rest = word.partition("-")
    if word == "any":
        reading.push((word,))
    elif word == "in":
        reading.enter()
    elif word == "out":
        reading.many_open -= 1
    elif word == "mark":
        reading.marks.append(len(reading.held))
    elif word == "unmark":
        reading.marks.pop()
    elif word in ("none", "true", "false"):
        reading.push({"none": None, "true": True, "false": False}[word])
    elif lead == "name":
        reading.push(rest)
    elif lead in ("op", "monad"):
        reading.push(("op", rest, reading.take_last(2 if lead == "op" else 1)))
    else:
        _act_on_parts(reading, word)


def _read(text, rule, sort):
    """The tree of a sort with a text, by a rule of the grammar."""
    if not isinstance(text, str):
        raise ParseError(None)
    tree = Reading(text).run(rule)
    if not is_tree(tree, sort):
        raise ParseError(len(text))
    return tree


def read_type(text):
    """The type with a text."""
    return _read(text, "T0", "type")


def read_pattern(text):
    """The pattern with a text."""
    return _read(text, "P0", "whole")


def read_expression(text):
    """The expression with a text."""
    return _read(text, "E0", "expression")


def read_declaration(text):
    """The declaration with a text."""
    return _read(text, "D", "top")


def read_structure(text):
    """The structure with a text."""
    return _read(text, "M", "structure")


def read_signature(text):
    """The signature with a text."""
    return _read(text, "G", "signature")


def read_unit(text):
    """The unit with a text."""
    return _read(text, "Unit", "unit")
