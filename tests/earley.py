"""The grammar of the document, letter by letter, and a plain recognizer for it (by Earley's rules).

It tells at which token no text of the grammar goes on; the reader of the package must tell the same.
"""

GRAMMAR = """
T0 = T1 [ -> T0 ]
T1 = T2 { * T2 }
T2 = TA { TPATH }
TA = var / eqvar / TPATH / unit / ( T0 ) / ( T0 , T0 { , T0 } ) TPATH
P0 = P1 [ bar P0 ]
P1 = low as P1 / P2
P2 = P3 [ :: P2 ]
P3 = HPATH PA / PA
PA = _ / low / number / string / HPATH / lbracket rbracket / ( [ P0 { , P0 } ] )
E0 = if E0 then E0 else E0 / raise E0 / E1
E1 = E2 { handle ROWS end }
E2 = E3 [ orelse E2 ]
E3 = E4 [ andalso E3 ]
E4 = E5 [ := E5 ]
E5 = E6 [ RELATION E6 ]
RELATION = = / <
E6 = E7 [ :: E6 ]
E7 = E8 { SUM E8 }
SUM = ^ / + / -
E8 = E9 { PRODUCT E9 }
PRODUCT = * / div / mod
E9 = EA { EA }
MONAD = ! / ref / text / print / read
EA = MONAD EA / number / string / VPATH / HPATH / lbracket rbracket / EB / EC / fn ROWS end / case E0 of ROWS end / ED
EB = ( [ E0 { , E0 } ] ) / ( E0 ; E0 { ; E0 } )
EC = ( E0 : T0 )
ED = while E0 do E0 end / let P0 = E0 in E0 end / let rec FUNCTIONS in E0 end
ROWS = ROW { bar ROW }
ROW = P0 [ when E0 ] => E0
FUNCTIONS = low = fn ROWS end { and low = fn ROWS end }
PARAMS = [ PARAMSA ]
PARAMSA = var / ( var , var { , var } )
GROUP = PARAMS low = CON { bar CON } { and PARAMS low = CON { bar CON } }
CON = high [ of T0 ]
D = val P0 = E0 / val rec FUNCTIONS / type PARAMS low = T0 / datatype GROUP / DB / DC / DD / DE
DB = exception high [ of T0 ] / exception high = HPATH
DC = structure high = M / open HPATH
DD = signature high = G
DE = functor high ( high : G ) = M
M = MA { MB }
MB = :> G / : G
MA = struct { D } end / high ( M ) / HPATH
G = GA { where type PARAMS TPATH = T0 }
GA = sig { S } end / high
S = val low : T0 / type PARAMS low [ = T0 ] / eqtype PARAMS low / datatype GROUP / SB / SC
SB = exception high [ of T0 ] / structure high : G
SC = include G
UNIT = { D }
TPATH = { high . } low / ref
VPATH = { high . } low
HPATH = high { . high }
"""

STARTS = {
    "type": "T0", "pattern": "P0", "expression": "E0", "declaration": "D", "structure": "M", "signature": "G",
    "unit": "UNIT",
}


class Grammar:
    """Plain rules: for each name the list of its right sides, tuples of names and kinds of tokens."""

    def __init__(self):
        self.rules = {}
        for line in GRAMMAR.strip().split("\n"):
            name, _, right = line.partition(" = ")
            self.rules[name] = []
            words = right.split()
            self.choices(name, words)

    def choices(self, name, words):
        depth = 0
        side = []
        for word in [*words, "/"]:
            depth += (word in "[{") - (word in "]}") if len(word) == 1 else 0
            if word == "/" and depth == 0:
                self.rules[name].append(self.plain(side))
                side = []
            else:
                side.append(word)

    def plain(self, words):
        """A right side in which optional parts have names of their own."""
        out = []
        at = 0
        while at < len(words):
            if words[at] in ("[", "{"):
                end = self.closing(words, at)
                fresh = f"#{len(self.rules)}"
                self.rules[fresh] = [()]
                inside = self.plain(words[at + 1:end])
                self.rules[fresh].append(inside if words[at] == "[" else (*inside, fresh))
                out.append(fresh)
                at = end
            else:
                out.append({"bar": "|", "lbracket": "[", "rbracket": "]"}.get(words[at], words[at]))
            at += 1
        return tuple(out)

    @staticmethod
    def closing(words, at):
        depth = 0
        for k in range(at, len(words)):
            depth += (words[k] in "[{") - (words[k] in "]}") if len(words[k]) == 1 else 0
            if depth == 0:
                return k
        raise AssertionError("no end")


GRAMMAR_RULES = Grammar().rules


def stuck_at(kinds, start):
    """The index of the first token with which no text goes on, len(kinds) if the end comes too early, else None."""
    rules = GRAMMAR_RULES
    columns = [set() for _ in range(len(kinds) + 1)]
    todo = [("", (start,), 0, 0)]
    columns[0].add(todo[0])
    for at in range(len(kinds) + 1):
        complete = {}
        waiting = {}
        if at > 0:
            todo = list(columns[at])
        if not todo:
            return at - 1
        while todo:
            name, side, dot, begin = todo.pop()
            found = []
            if dot == len(side):
                complete.setdefault((name, begin), True)
                source = columns[begin] if begin < at else list(columns[at])
                found = [(n, s, d + 1, b) for n, s, d, b in source if d < len(s) and s[d] == name]
            elif side[dot] in rules:
                waiting[side[dot]] = True
                found = [(side[dot], right, 0, at) for right in rules[side[dot]]]
                if (side[dot], at) in complete:
                    found.append((name, side, dot + 1, begin))
            elif at < len(kinds) and kinds[at] == side[dot]:
                columns[at + 1].add((name, side, dot + 1, begin))
            for item in found:
                if item not in columns[at]:
                    columns[at].add(item)
                    todo.append(item)
        todo = []
    return None if ("", (start,), 1, 0) in columns[len(kinds)] else len(kinds)
