"""Random declarations with structures, signatures, functors, exceptions and `open`, made by what is in scope."""

LETTERS = {"values": "xyz", "exceptions": "EFG", "structures": "STUV"}


class Shape:
    """The names of values, exceptions and structures; those of structures have shapes."""

    def __init__(self, values=(), exceptions=(), structures=()):
        self.values = dict.fromkeys(values)
        self.exceptions = dict.fromkeys(exceptions)
        self.structures = dict(structures)

    def over(self, other):
        """This with all of another one over it."""
        return Shape({**self.values, **other.values}, {**self.exceptions, **other.exceptions}, {**self.structures, **other.structures})

    def paths(self, kind, ahead="", depth=0):
        found = [ahead + name for name in getattr(self, kind)]
        if depth < 2:
            for name, shape in self.structures.items():
                found += shape.paths(kind, f"{ahead}{name}.", depth + 1)
        return found

    def at(self, path):
        shape = self
        for name in path.split("."):
            shape = shape.structures[name]
        return shape


def full_shape(depth):
    return Shape("xyz", "EF", {name: full_shape(depth - 1) for name in "ST"} if depth else {})


class StructureMaker:
    def __init__(self, random):
        self.random = random
        self.functors = {}

    def expression(self, scope, depth=0):
        random = self.random
        values, exceptions = scope.paths("values"), scope.paths("exceptions")
        k = random.randint(0, 9)
        if values and k < 5:
            return random.choice(values)
        if k < 6 or depth > 2:
            return str(random.randint(0, 99))
        if k == 6 and exceptions:
            rows = " | ".join(f"{path} => {random.randint(0, 99)}" for path in random.sample(exceptions, min(len(exceptions), 3)))
            return f"((raise {random.choice(exceptions)}) handle {rows} | _ => {random.randint(100, 199)} end)"
        if k == 8:
            inner = self.expression(scope.over(Shape("x")), depth + 1)
            return f"let x = {self.expression(scope, depth + 1)} in {inner} end"
        if k == 9:
            return f"(fn y => {self.expression(scope.over(Shape('y')), depth + 1)} end ({self.expression(scope, depth + 1)}))"
        return f"({self.expression(scope, depth + 1)} + {self.expression(scope, depth + 1)})"

    def signature(self, shape):
        """The text of a signature that has some of a shape, and its own shape."""
        found, texts = Shape(), []
        for name in shape.values:
            if self.random.random() < 0.7:
                found.values[name] = None
                texts.append(f"val {name} : int")
        for name in shape.exceptions:
            if self.random.random() < 0.7:
                found.exceptions[name] = None
                texts.append(f"exception {name}")
        for name, inner in shape.structures.items():
            if self.random.random() < 0.7:
                text, found.structures[name] = self.signature(inner)
                texts.append(f"structure {name} : {text}")
        self.random.shuffle(texts)
        return f"sig {' '.join(texts)} end", found

    def argument(self, shape, scope):
        texts = [f"val {name} = {self.expression(scope)}" for name in shape.values] + [f"exception {name}" for name in shape.exceptions]
        texts += [f"structure {name} = {self.argument(inner, scope)}" for name, inner in shape.structures.items()]
        self.random.shuffle(texts)
        return f"struct val q = 1 {' '.join(texts)} end"

    def structure(self, scope, depth):
        """The text of a structure, and its shape."""
        random = self.random
        known = scope.paths("structures")
        k = random.random()
        if known and (depth >= 3 or k < 0.25):
            path = random.choice(known)
            return path, scope.at(path)
        if self.functors and k < 0.45:
            name = random.choice(sorted(self.functors))
            parameter, shape = self.functors[name]
            return f"{name}({self.argument(parameter, scope)})", shape
        if depth >= 3:
            return "struct end", Shape()
        text, shape = self.declarations(scope, depth + 1)
        if random.random() < 0.4:
            signature, shape = self.signature(shape)
            return f"struct {text} end {random.choice((':', ':>'))} {signature}", shape
        return f"struct {text} end", shape

    def exception(self, scope, own):
        name = self.random.choice([name for name in LETTERS["exceptions"] if name not in own.exceptions])
        if self.random.random() < 0.6:
            return f"exception {name}", Shape((), name)
        return f"exception {name} = {self.random.choice([*scope.paths('exceptions'), 'Div'])}", Shape((), name)

    def functor(self, scope):
        name = "F" + "abcd"[len(self.functors)]
        text, parameter = self.signature(full_shape(2))
        body, shape = self.structure(scope.over(Shape((), (), {"X": parameter})), 1)
        self.functors[name] = (parameter, shape)
        return f"functor {name}(X : {text}) = {body}"

    def declarations(self, scope, depth, top=False):
        """The text of some declarations, and the shape of what they declare."""
        random = self.random
        own, texts = Shape(), []
        for _ in range(random.randint(2, 12 if top else 6)):
            k = random.random()
            new = Shape()
            if k < 0.35:
                new = Shape(random.choice("xyz"))
                texts.append(f"val {''.join(new.values)} = {self.expression(scope)}")
            elif k < 0.42:
                one, other = random.sample("xyzw", 2)
                new = Shape((one, other))
                texts.append(f"val ({one}, {other}) = ({self.expression(scope)}, {self.expression(scope)})")
            elif k < 0.55 and len(own.exceptions) < 3:
                text, new = self.exception(scope, own)
                texts.append(text)
            elif k < 0.78 and len(own.structures) < 4:
                name = random.choice([name for name in LETTERS["structures"] if name not in own.structures])
                text, shape = self.structure(scope, depth)
                new = Shape((), (), {name: shape})
                texts.append(f"structure {name} = {text}")
            elif top and k < 0.86 and len(self.functors) < 4:
                texts.append(self.functor(scope))
            elif scope.paths("structures"):
                path = random.choice(scope.paths("structures"))
                texts.append(f"open {path}")
                scope = scope.over(scope.at(path))
            own, scope = own.over(new), scope.over(new)
        return " ".join(texts), own


def random_structures(random):
    """The text of a random unit of structures."""
    return StructureMaker(random).declarations(Shape(), 0, True)[0]
