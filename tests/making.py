"""Random trees of all kinds, the same ones for the same seed."""

import random

LOWS = ("a", "b", "x", "abcdefgh", "zz", "list", "int")
HIGHS = ("A", "B", "Z", "Abcdefgh", "ABCDEFGH", "Nil", "Cons", "True")
STRINGS = ("", "a", "\"", "\\", "\\\"", " ~", "(", "a b")
NUMBERS = (0, 1, -1, 42, 2 ** 62 - 1, -(2 ** 62))
TWO = ("+", "-", "*", "div", "mod", "<", "=", "^", ":=")
ONE = ("!", "ref", "text", "print", "read")


class Maker:
    """A source of random trees."""

    def __init__(self, seed):
        self.rng = random.Random(seed)

    def pick(self, entries):
        return self.rng.choice(entries)

    def low(self):
        return self.pick(LOWS)

    def high(self):
        return self.pick(HIGHS)

    def led(self):
        return tuple(self.high() for _ in range(self.pick((0, 0, 0, 1, 2))))

    def low_path(self):
        return (*self.led(), self.low())

    def high_path(self):
        return (*self.led(), self.high())

    def type_path(self):
        return ("ref",) if self.rng.random() < 0.2 else self.low_path()

    def members(self, make, deep):
        return tuple(make(deep) for _ in range(self.pick((0, 2, 2, 3))))

    def type(self, deep, closed=False):
        def make(below):
            return self.type(below, closed)
        word = self.pick(("con", "fn", "tuple", "con", "fn") if deep > 0 else ("con0",))
        if word == "con0":
            if not closed and self.rng.random() < 0.6:
                return (self.pick(("var", "eqvar")), self.low())
            return ("con", self.type_path(), ())
        if word == "con":
            return ("con", self.type_path(), tuple(make(deep - 1) for _ in range(self.pick((0, 1, 1, 2, 3)))))
        if word == "fn":
            return ("fn", make(deep - 1), make(deep - 1))
        return ("tuple", self.members(make, deep - 1))

    def closed(self, deep):
        return self.type(deep, True)

    def pattern(self, deep):
        """A pattern in which no name stands twice."""
        names = list("abcdefghijklmnopqrstuvwxyz") + ["n" + k for k in "abcdefghijklmnopqrstuvwxyz"]
        self.rng.shuffle(names)
        return self.part(deep, names)

    def part(self, deep, names):
        """A pattern that takes its names away from those that are left."""
        words = ("any", "name", "int", "string", "con0", "unit")
        if deep > 0:
            words = ("any", "name", "tuple", "con", "con", "cons", "as", "or", "or", "con0")
        word = self.pick(words)
        if word == "name" and names:
            return ("name", names.pop())
        if word == "int":
            return ("int", self.pick(NUMBERS))
        if word == "string":
            return ("string", self.pick(STRINGS))
        if word == "con0":
            return ("con", self.high_path(), None)
        if word == "unit":
            return ("tuple", ())
        if word == "tuple":
            return ("tuple", self.members(lambda below: self.part(below, names), deep - 1))
        if word == "con":
            return ("con", self.high_path(), self.part(deep - 1, names))
        if word == "cons":
            return ("con", ("Cons",), ("tuple", (self.part(deep - 1, names), self.part(deep - 1, names))))
        if word == "as" and names:
            return ("as", names.pop(), self.part(deep - 1, names))
        if word == "or":
            left = list(names)
            one = self.part(deep - 1, names)
            used = [name for name in left if name not in names]
            return ("or", one, self.binding(used)) if self.rng.random() < 0.5 else ("or", self.binding(used), one)
        return ("any",)

    def binding(self, names):
        """A pattern that binds just these names."""
        tree = ("any",)
        for name in names:
            tree = ("as", name, tree) if self.rng.random() < 0.5 else ("tuple", (("name", name), tree))
        return tree

    def rows(self, deep):
        return tuple(
            (self.pattern(min(deep, 2)), self.pick((None, None, self.expression(deep))), self.expression(deep))
            for _ in range(self.pick((1, 1, 2))))

    def functions(self, deep):
        names = list(LOWS)
        self.rng.shuffle(names)
        return tuple((names.pop(), self.rows(deep)) for _ in range(self.pick((1, 2))))

    def expression(self, deep):
        if deep <= 0:
            return self.pick((
                ("int", self.pick(NUMBERS)), ("string", self.pick(STRINGS)), ("name", self.low_path()),
                ("con", self.high_path()), ("tuple", ()), ("con", ("Nil",))))
        word = self.pick((
            "tuple", "fn", "call", "call", "cons", "let", "letrec", "case", "if", "raise", "handle", "then", "while",
            "both", "either", "typed", "op", "op", "op", "one"))
        below = deep - 1
        if word == "tuple":
            return ("tuple", self.members(self.expression, below))
        if word == "fn":
            return ("fn", self.rows(below))
        if word == "cons":
            return ("call", ("con", ("Cons",)), ("tuple", (self.expression(below), self.expression(below))))
        if word == "let":
            return ("let", self.pattern(2), self.expression(below), self.expression(below))
        if word == "letrec":
            return ("letrec", self.functions(below), self.expression(below))
        if word in ("case", "handle"):
            return (word, self.expression(below), self.rows(below))
        if word == "if":
            return ("if", self.expression(below), self.expression(below), self.expression(below))
        if word == "raise":
            return ("raise", self.expression(below))
        if word == "typed":
            return ("typed", self.expression(below), self.closed(2))
        if word == "op":
            return ("op", self.pick(TWO), (self.expression(below), self.expression(below)))
        if word == "one":
            return ("op", self.pick(ONE), (self.expression(below),))
        return (word, self.expression(below), self.expression(below))

    def parameters(self):
        names = list(LOWS)
        self.rng.shuffle(names)
        return tuple(names[:self.pick((0, 0, 1, 2, 4))])

    def group(self, deep):
        def constructors():
            return tuple(
                (self.high(), self.pick((None, self.type(deep)))) for _ in range(self.pick((1, 2, 3))))
        return tuple((self.parameters(), self.low(), constructors()) for _ in range(self.pick((1, 1, 2))))

    def option(self, deep):
        return self.pick((None, self.closed(deep)))

    def declaration(self, deep, top=False):
        words = ("val", "rec", "type", "data", "exception", "alias", "open", "structure", "structure")
        word = self.pick(words + (("signature", "functor") if top else ()))
        below = deep - 1
        if word == "val":
            return ("val", self.pattern(2), self.expression(below))
        if word == "rec":
            return ("rec", self.functions(below))
        if word == "type":
            return ("type", self.parameters(), self.low(), self.type(2))
        if word == "data":
            return ("data", self.group(2))
        if word == "exception":
            return ("exception", self.high(), self.option(2))
        if word == "alias":
            return ("alias", self.high(), self.high_path())
        if word == "open":
            return ("open", self.high_path())
        if word == "structure":
            return ("structure", self.high(), self.structure(below))
        if word == "signature":
            return ("signature", self.high(), self.signature(below))
        return ("functor", self.high(), self.high(), self.signature(below), self.structure(below))

    def structure(self, deep):
        if deep <= 0:
            return self.pick((("at", self.high_path()), ("struct", ())))
        word = self.pick(("struct", "apply", "seal", "fit"))
        if word == "struct":
            return ("struct", tuple(self.declaration(deep - 1) for _ in range(self.pick((0, 1, 2)))))
        if word == "apply":
            return ("apply", self.high(), self.structure(deep - 1))
        return (word, self.structure(deep - 1), self.signature(deep - 1))

    def signature(self, deep):
        if deep <= 0:
            return ("named", self.high())
        if self.rng.random() < 0.3:
            return ("where", self.signature(deep - 1), self.type_path(), self.parameters(), self.type(2))
        return ("sig", tuple(self.specification(deep - 1) for _ in range(self.pick((0, 1, 2)))))

    def specification(self, deep):
        word = self.pick(("val", "type", "abbr", "data", "exception", "structure", "include"))
        if word == "val":
            return ("val", self.low(), self.type(2))
        if word == "type":
            return ("type", self.parameters(), self.low(), self.pick((True, False)))
        if word == "abbr":
            return ("abbr", self.parameters(), self.low(), self.type(2))
        if word == "data":
            return ("data", self.group(2))
        if word == "exception":
            return ("exception", self.high(), self.option(2))
        if word == "structure":
            return ("structure", self.high(), self.signature(deep))
        return ("include", self.signature(deep))

    def unit(self, deep):
        return tuple(self.declaration(deep, True) for _ in range(self.pick((0, 1, 2, 3))))

    def any_tree(self, kind, deep):
        """A tree of a kind by its name in the interface."""
        if kind == "declaration":
            return self.declaration(deep, True)
        return getattr(self, kind)(deep)


KINDS = ("type", "pattern", "expression", "declaration", "structure", "signature", "unit")
