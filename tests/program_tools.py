"""Random programs that can be typed, made by types; and what runs of them tell."""

from letquay.code.making import compiled
from letquay.machine.runs import Machine
from letquay.modules.flatten import flattened
from letquay.modules.programs import typed_unit
from letquay.rules.runs import Run
from letquay.text.reader import read_unit

HEAD = """
datatype tree = Leaf | Node of tree * int * tree
datatype 'a opt = None | Some of 'a
exception A
exception B of int
exception C = B
val rec sum = fn [] => 0 | x :: l => x + sum l end
val rec upto = fn n when n < 1 => [] | n => n :: upto (n - 1) end
val rec even = fn 0 => True | n when n < 0 => even (0 - n) | n => odd (n - 1) end and odd = fn 0 => False | n => even (n - 1) end
val rec size = fn Leaf => 0 | Node (l, _, r) => size l + 1 + size r end
val rec map = fn (f, []) => [] | (f, x :: l) => f x :: map (f, l) end
val cell = ref 0
"""
SIMPLE = ("int", "string", "bool", "unit", "tree", ("list", "int"), ("pair", "int", "bool"), ("opt", "int"), ("list", ("pair", "int", "string")))


def program(text, **more):
    return typed_unit(read_unit(text), **more)


def type_of(t):
    """The text of a type."""
    if isinstance(t, str):
        return t
    if t[0] == "list":
        return f"({type_of(t[1])}) list"
    if t[0] == "opt":
        return f"({type_of(t[1])}) opt"
    if t[0] == "pair":
        return f"({type_of(t[1])} * {type_of(t[2])})"
    return f"({type_of(t[1])} -> {type_of(t[2])})"


class Maker:
    def __init__(self, random):
        self.random = random
        self.count = 0

    def name(self):
        self.count += 1
        letters = ""
        n = self.count
        while n:
            letters += "abcdefghij"[n % 10]
            n //= 10
        return "x" + letters

    def simple(self):
        return self.random.choice(SIMPLE)

    def pattern(self, t, depth, fresh=True):
        """The pair of the text of a pattern and of the names that it binds."""
        r = self.random.random()
        if depth <= 0 or r < 0.2:
            if not fresh or r < 0.08:
                return "_", []
            name = self.name()
            return name, [(name, t)]
        if r < 0.28 and fresh:
            inner, bound = self.pattern(t, depth - 1)
            name = self.name()
            return f"({name} as ({inner}))", [*bound, (name, t)]
        if r < 0.4:
            one, _ = self.pattern(t, depth - 1, False)
            two, _ = self.pattern(t, depth - 1, False)
            return f"({one} | {two})", []
        if r < 0.46 and fresh and isinstance(t, tuple) and t[0] == "pair":
            name = self.name()
            a, _ = self.pattern(t[2], 1, False)
            return f"(({name}, {a}) | ({name}, _))", [(name, t[1])]
        return self.built_pattern(t, depth, fresh)

    def built_pattern(self, t, depth, fresh):
        random = self.random
        if t == "int":
            return random.choice(("0", "1", "2", "~1", "7")), []
        if t == "string":
            return random.choice(('"a"', '""', '"ab"')), []
        if t == "bool":
            return random.choice(("True", "False")), []
        if t == "unit":
            return "()", []
        if t == "exn":
            word = random.choice(("A", "Div", "Match", "B", "C"))
            if word in "BC":
                inner, bound = self.pattern("int", depth - 1, fresh)
                return f"({word} ({inner}))", bound
            return word, []
        if t == "tree":
            if random.random() < 0.4:
                return "Leaf", []
            return self.joined((t, "int", t), depth, fresh, "Node ({})", ", ")
        if t[0] == "pair":
            return self.joined(t[1:], depth, fresh, "({})", ", ")
        if t[0] == "list":
            if random.random() < 0.4:
                return "[]", []
            return self.joined((t[1], t), depth, fresh, "({})", " :: ")
        if t[0] == "opt":
            if random.random() < 0.4:
                return "None", []
            return self.joined(t[1:], depth, fresh, "(Some ({}))", "")
        return self.pattern(t, 0, fresh)

    def joined(self, types, depth, fresh, form, sign):
        texts, bound = [], []
        for t in types:
            text, more = self.pattern(t, depth - 1, fresh)
            texts.append(f"({text})")
            bound.extend(more)
        return form.format(sign.join(texts)), bound

    def rows(self, t, u, depth, env):
        rows = []
        for _ in range(self.random.randint(1, 3)):
            pattern, bound = self.pattern(t, 2)
            guard = f" when {self.expression('bool', depth - 2, [*env, *bound])}" if self.random.random() < 0.3 else ""
            rows.append(f"{pattern}{guard} => {self.expression(u, depth - 1, [*env, *bound])}")
        if self.random.random() < 0.7:
            rows.append(f"_ => {self.expression(u, depth - 2, env)}")
        return " | ".join(rows)

    def expression(self, t, depth, env):
        """The text of an expression of a type."""
        random = self.random
        known = [name for name, u in env if u == t]
        if known and random.random() < (0.3 if depth > 0 else 0.8):
            return random.choice(known)
        if depth <= 0:
            return self.leaf(t, env)
        r = random.randint(0, 15)
        more = depth - 1
        if r == 0:
            return f"(if {self.expression('bool', more, env)} then {self.expression(t, more, env)} else {self.expression(t, more, env)})"
        if r == 1:
            u = self.simple()
            pattern, bound = self.pattern(u, 2)
            return f"let {pattern} = {self.expression(u, more, env)} in {self.expression(t, more, [*env, *bound])} end"
        if r == 2:
            u = self.simple()
            return f"(case {self.expression(u, more, env)} of {self.rows(u, t, depth, env)} end)"
        if r == 3:
            return f"(({self.expression(t, more, env)}) handle {self.rows('exn', t, depth, env)} end)"
        if r == 4:
            u = self.simple()
            return f"(fn {self.rows(u, t, depth, env)} end ({self.expression(u, more, env)}))"
        if r == 5:
            return f"({self.expression(self.simple(), more, env)}; {self.expression(t, more, env)})"
        if r == 6 and random.random() < 0.5:
            return f"(raise {self.expression('exn', more, env)})"
        if r == 7:
            name = self.name()
            inner = [*env, (name, "int ref")]
            return (f"let {name} = ref 0 in (while !{name} < {random.randint(0, 3)} do ({name} := !{name} + 1; "
                    f"{self.expression('unit', more, inner)}) end; {self.expression(t, more, inner)}) end")
        if r == 8:
            name = self.name()
            return (f"let rec {name} = fn 0 => {self.expression(t, more, env)} | {name}n => {name} ({name}n - 1) end in "
                    f"{name} {random.randint(0, 3)} end")
        if r == 9 and isinstance(t, str):
            return f"({self.expression(t, more, env)} : {t})"
        if r == 10:
            u = self.simple()
            name = self.name()
            f = f"fn {self.rows(u, t, depth, env)} end"
            return f"let {name} = {f} in {name} ({self.expression(u, more, env)}) end"
        return self.built(t, depth, env)

    def leaf(self, t, env):
        random = self.random
        if t == "int":
            return random.choice(("0", "1", "2", "5", "~3", "4611686018427387903", "!cell", "read ()"))
        if t == "string":
            return random.choice(('"a"', '""', '"b c"', '"\\""'))
        if t == "bool":
            return random.choice(("True", "False"))
        if t == "unit":
            return random.choice(("()", 'print "p"', "cell := 3"))
        if t == "exn":
            return random.choice(("A", "B 1", "C 2", "Div", "End"))
        if t == "tree":
            return random.choice(("Leaf", "Node (Leaf, 1, Leaf)"))
        if t[0] == "list":
            return "[]"
        if t[0] == "opt":
            return "None"
        if t[0] == "pair":
            return f"({self.expression(t[1], 0, env)}, {self.expression(t[2], 0, env)})"
        return "(fn _ => raise A end)"

    def built_leaf(self, t):
        """A text of a value that raises nothing."""
        plain = {"int": "7", "string": '"h"', "bool": "True", "unit": "()", "exn": "A", "tree": "Leaf"}
        if isinstance(t, str):
            return plain[t]
        if t[0] == "pair":
            return f"({self.built_leaf(t[1])}, {self.built_leaf(t[2])})"
        return "[]" if t[0] == "list" else "None"

    def built(self, t, depth, env):
        random = self.random

        def e(u):
            return f"({self.expression(u, depth - 1, env)})"
        if t == "int":
            return random.choice((
                lambda: f"{e(t)} + {e(t)}", lambda: f"{e(t)} * {e(t)}", lambda: f"{e(t)} div {e(t)}",
                lambda: f"{e(t)} mod {e(t)}", lambda: f"{e(t)} - {e(t)}", lambda: f"sum {e(('list', 'int'))}",
                lambda: f"size {e('tree')}", lambda: f"(cell := {e(t)}; !cell)"))()
        if t == "string":
            return random.choice((lambda: f"{e(t)} ^ {e(t)}", lambda: f"text {e('int')}"))()
        if t == "bool":
            return random.choice((
                lambda: f"{e('int')} < {e('int')}", lambda: self.equal(depth, env),
                lambda: f"({e(t)} andalso {e(t)})", lambda: f"({e(t)} orelse {e(t)})",
                lambda: f"even ({e('int')} mod 5)"))()
        if t == "unit":
            return random.choice((lambda: f"print {e('string')}", lambda: f"cell := {e('int')}"))()
        if t == "exn":
            return random.choice((lambda: f"B {e('int')}", lambda: f"C {e('int')}", lambda: "A"))()
        if t == "tree":
            return f"Node ({e(t)}, {e('int')}, {e(t)})"
        if t[0] == "list":
            if t == ("list", "int") and random.random() < 0.4:
                return random.choice((lambda: f"upto ({e('int')} mod 6)", lambda: f"map (fn x => {self.expression('int', depth - 1, [*env, ('x', 'int')])} end, {e(t)})"))()
            return f"{e(t[1])} :: {e(t)}"
        if t[0] == "opt":
            return f"Some {e(t[1])}"
        if t[0] == "pair":
            return f"({e(t[1])}, {e(t[2])})"
        return self.leaf(t, env)

    def equal(self, depth, env):
        u = self.simple()
        return f"({self.expression(u, depth - 1, env)}) = ({self.expression(u, depth - 1, env)})"

    def values(self, env, depth):
        """Some declarations of values, whose names come into the environment."""
        found = []
        for _ in range(self.random.randint(1, 3)):
            t = self.simple()
            pattern, bound = self.pattern(t, self.random.choice((0, 0, 0, 0, 0, 2)))
            text = self.expression(t, depth, env)
            if self.random.random() < 0.85:
                text = f"({text}) handle _ => {self.built_leaf(t)} end"
            found.append(f"val {pattern} = ({text} : {type_of(t)})")
            env.extend(bound)
        return "\n".join(found)

    def module(self, depth):
        """Declarations with structures, signatures, functors and `open`."""
        env = []
        value = f"(({self.expression('int', depth, env)}) handle _ => 0 end)"
        seal = self.random.choice((":>", ":"))
        return f"""
signature S = sig type t val make : int -> t val told : t -> int exception E of int structure In : sig val deep : bool end end
structure M = struct type t = int * bool val hide = (({self.expression("bool", depth, env)}) handle _ => True end)
  val make = fn n => (n + {value}, hide) end val told = fn (n, _) => n end exception E of int exception Own
  structure In = struct val deep = hide val more = (({self.expression("string", depth, env)}) handle _ => "" end) end end {seal} S
functor F (X : S) = struct open X exception G val x = told (make (({self.expression("int", depth, env)}) handle _ => 8 end)) val raised = G
  val check = fn e => (case e of G => 1 | X.E n => n | _ => 0 end) end structure Y = X end
structure A = F (M)
structure B = F (struct open M type t = M.t val make = fn n => M.make (n + 1) end val told = told exception E = E
  structure In = struct val deep = False end end)
val flags = (A.check A.raised, B.check A.raised, B.check (M.E 5), A.Y.In.deep, A.x = B.x)
structure K = struct val x = 1 val y = {value} exception E structure D = struct end end
val x = 2 val z = 3 exception E
open K
val w = x + z
val x = 4
open A
val flags = (flags, x, (raise E) handle K.E => 1 | M.E _ => 2 | _ => 3 end)
structure H = struct val x = 10 open K val u = x val y = 11 open K end
val last = (H.x, H.u, H.y)
"""


def random_text(random, depth=3):
    """The text of a random program."""
    maker = Maker(random)
    env = [("upto", ("fn", "int", ("list", "int")))]
    text = HEAD + maker.values(env, depth)
    if random.random() < 0.5:
        text += maker.module(min(depth, 2))
    return text + "\n" + maker.values(env, depth)


def nodes_of(unit):
    from letquay.text.trees import nodes_in
    return nodes_in(unit.declarations)


def both_runs(unit, inputs=(), most=20000):
    """The run by the rules and the machine behind its code, both as far as they go."""
    run = Run(unit, inputs)
    run.go_on(most=most)
    machine = Machine((("U", compiled(flattened(unit))),), inputs)
    bound = (60 + nodes_of(unit)) * max(len(run), 1) + 1000
    while machine.ends is None and len(machine) < bound and run.ends is not None:
        machine.go_on(most=min(100000, bound - len(machine)))
    return run, machine, bound
