"""[0.1] to [0.8], [1.1] to [1.3] and part 1b: names, forms, limits, places."""

import random
import unittest

from letquay.errors import InvalidOperation, InvalidTree
from letquay.text import trees
from letquay.text.trees import (
    MAX_DEPTH, MAX_NODES, is_declaration, is_expression, is_pattern, is_signature, is_structure, is_type_tree,
    is_unit, names_bound, nodes_in, part_at, places_in,
)
from tests.judge import KEYWORDS, judged
from tests.making import KINDS, Maker
from tests.odd import ODD

JUDGES = {
    "type": is_type_tree, "pattern": is_pattern, "expression": is_expression, "declaration": is_declaration,
    "structure": is_structure, "signature": is_signature, "unit": is_unit,
}
ONE = ("int", 1)
ANY = ("any",)
VAR = ("var", "a")


def name_value(name):
    return is_pattern(("name", name))


def chain(depth):
    tree = ONE
    for _ in range(depth - 1):
        tree = ("raise", tree)
    return tree


def everywhere(value, place=()):
    """The places of all entries of all tuples."""
    yield place
    if isinstance(value, tuple):
        for index, entry in enumerate(value):
            yield from everywhere(entry, (*place, index))


def changed(value, place, entry):
    if not place:
        return entry
    index = place[0]
    return (*value[:index], changed(value[index], place[1:], entry), *value[index + 1:])


class NamesTest(unittest.TestCase):
    def test_low_names(self):
        for name in ("a", "z", "abcdefgh", "xx", "reff", "match", "true", "int"):
            self.assertTrue(name_value(name), name)
            self.assertTrue(is_expression(("name", (name,))))
        for name in ("", "abcdefghi", "A", "aB", "a1", "a_b", "a ", " a", "\n", "a\n", "~", "a'", "{", "`", "ab-"):
            self.assertFalse(name_value(name), name)
            self.assertFalse(is_expression(("name", (name,))), name)

    def test_no_keyword_is_a_low_name(self):
        self.assertEqual(len(KEYWORDS), 39)
        for word in KEYWORDS:
            self.assertFalse(name_value(word), word)
            self.assertFalse(is_type_tree(("var", word)), word)

    def test_high_names(self):
        for name in ("A", "Z", "Abcdefgh", "ABCDEFGH", "aB".upper(), "Fn", "Val"):
            self.assertTrue(is_expression(("con", (name,))), name)
        for name in ("", "Abcdefghi", "a", "aB", "A1", "A_", "A ", "[", "@", "A\n"):
            self.assertFalse(is_expression(("con", (name,))), name)

    def test_paths(self):
        self.assertTrue(is_expression(("name", ("A", "B", "x"))))
        self.assertTrue(is_expression(("con", ("A", "B", "C"))))
        self.assertTrue(is_expression(("name", ("A",) * 100 + ("x",))))
        for path in ((), ("x", "y"), ("x", "A"), ("A",), ["x"], "x", ("A", ("x",)), ("ref",), ("A", "ref"), (1,)):
            self.assertFalse(is_expression(("name", path)), path)
        for path in ((), ("x",), ("x", "A"), ["A"], "A", ("A", "x")):
            self.assertFalse(is_expression(("con", path)), path)
            self.assertFalse(is_structure(("at", path)), path)

    def test_paths_of_types(self):
        for path in (("t",), ("ref",), ("A", "t")):
            self.assertTrue(is_type_tree(("con", path, ())), path)
            self.assertTrue(is_signature(("where", ("named", "S"), path, (), VAR)), path)
        for path in (("T",), (), ("A", "ref"), ("unit",), ("val",), ["ref"], "ref"):
            self.assertFalse(is_type_tree(("con", path, ())), path)
            self.assertFalse(is_signature(("where", ("named", "S"), path, (), VAR)), path)


class LiteralsTest(unittest.TestCase):
    def test_integers_have_63_bits(self):
        for number in (0, 1, -1, 2 ** 62 - 1, -(2 ** 62)):
            self.assertTrue(is_pattern(("int", number)) and is_expression(("int", number)), number)
        for number in (2 ** 62, -(2 ** 62) - 1, 10 ** 60, 10 ** 99, True, False, None, "1", (1,)):
            self.assertFalse(is_pattern(("int", number)) or is_expression(("int", number)), number)

    def test_strings(self):
        for text in ("", "a", "\"", "\\", "~", " ", "x" * 1000, "\\" * 1000, "\"" * 1000):
            self.assertTrue(is_pattern(("string", text)) and is_expression(("string", text)), text)
        for text in ("x" * 1001, "\\" * 1001, "\n", "a\nb", None, 1, ("a",), ["a"], "x" * 100000):
            self.assertFalse(is_pattern(("string", text)) or is_expression(("string", text)), text)


class FormsTest(unittest.TestCase):
    def test_made_trees_are_trees(self):
        for kind in KINDS:
            for seed in range(150):
                tree = Maker(seed).any_tree(kind, seed % 5)
                self.assertEqual(JUDGES[kind](tree), judged(kind, tree), tree)
                self.assertTrue(JUDGES[kind](tree), tree)

    def test_changed_trees_are_judged_by_the_document(self):
        rng = random.Random(11)
        right = 0
        for kind in KINDS:
            for seed in range(120):
                tree = Maker(seed).any_tree(kind, seed % 4)
                places = list(everywhere(tree))
                for _ in range(12):
                    place = rng.choice(places)
                    entry = self.another(rng, tree, places)
                    wrong = changed(tree, place, entry)
                    right += JUDGES[kind](wrong)
                    self.assertIs(JUDGES[kind](wrong), judged(kind, wrong), wrong)
        self.assertGreater(right, 500)

    @staticmethod
    def another(rng, tree, places):
        """Something odd, or another part of the tree, or one with an entry more or less."""
        which = rng.random()
        if which < 0.3:
            return rng.choice(ODD)
        part = part_of(tree, rng.choice(places))
        if which < 0.7 or not isinstance(part, tuple):
            return part
        return part[:-1] if which < 0.85 else (*part, rng.choice(ODD))

    def test_odd_values(self):
        for value in ODD:
            for kind in KINDS:
                self.assertIs(JUDGES[kind](value), judged(kind, value), (kind, value))

    def test_each_kind_takes_its_own_alone(self):
        shown = {
            "type": ("fn", VAR, VAR), "pattern": ANY, "expression": ("raise", ONE), "declaration": ("open", ("A",)),
            "structure": ("at", ("A",)), "signature": ("named", "S"), "unit": (("open", ("A",)),),
        }
        for kind, tree in shown.items():
            for other in KINDS:
                self.assertEqual(JUDGES[other](tree), kind == other, (kind, other))

    def test_tuples_of_one(self):
        for many in (0, 1, 2, 3, 40):
            self.assertEqual(is_type_tree(("tuple", (VAR,) * many)), many != 1)
            self.assertEqual(is_pattern(("tuple", (ANY,) * many)), many != 1)
            self.assertEqual(is_expression(("tuple", (ONE,) * many)), many != 1)

    def test_rows_and_functions(self):
        row = (ANY, None, ONE)
        self.assertTrue(is_expression(("fn", (row,))))
        self.assertTrue(is_expression(("fn", ((ANY, ONE, ONE),))))
        for rows in ((), row, (ANY, None), ((ANY, ONE),), ((ANY, None, ONE, ONE),), ((ANY, (), ONE),), [row]):
            self.assertFalse(is_expression(("fn", rows)), rows)
        self.assertTrue(is_expression(("letrec", (("f", (row,)), ("g", (row,))), ONE)))
        for functions in ((), (("f", (row,)), ("f", (row,))), (("f", ()),), (("F", (row,)),), (("f", (row,), 1),)):
            self.assertFalse(is_expression(("letrec", functions, ONE)), functions)

    def test_operators(self):
        for word in ("+", "-", "*", "div", "mod", "<", "=", "^", ":="):
            self.assertTrue(is_expression(("op", word, (ONE, ONE))))
            for operands in ((), (ONE,), (ONE, ONE, ONE), [ONE, ONE]):
                self.assertFalse(is_expression(("op", word, operands)), operands)
        for word in ("!", "ref", "text", "print", "read"):
            self.assertTrue(is_expression(("op", word, (ONE,))))
            for operands in ((), (ONE, ONE), ONE):
                self.assertFalse(is_expression(("op", word, operands)), operands)
        for word in ("andalso", ">", "", None, 1, ["+"], ("+",)):
            self.assertFalse(is_expression(("op", word, (ONE, ONE))) or is_expression(("op", word, (ONE,))), word)

    def test_parameters(self):
        names = ("a", "b", "c", "d", "e")
        for many in range(6):
            self.assertEqual(is_declaration(("type", names[:many], "t", VAR)), many <= 4)
        for params in (("a", "a"), ("a", "b", "a"), ("A",), ["a"], "a", None, (("a",),)):
            self.assertFalse(is_declaration(("type", params, "t", VAR)), params)
            self.assertFalse(is_signature(("sig", (("type", params, "t", True),))), params)
            self.assertFalse(is_declaration(("data", ((params, "t", (("A", None),)),))), params)

    def test_groups(self):
        for many in range(14):
            pairs = tuple((f"A{'bcdefghijklmno'[k]}", None) for k in range(many))
            self.assertEqual(is_declaration(("data", (((), "t", pairs),))), 1 <= many <= 12, many)
        row = ((), "t", (("A", None),))
        for many in range(9):
            self.assertEqual(is_declaration(("data", (row,) * many)), 1 <= many <= 6, many)
        twice = (("a",), "t", (("A", ("var", "b")), ("A", None)))
        self.assertTrue(is_declaration(("data", (twice, twice))))
        for wrong in (((), "T", (("A", None),)), ((), "t", (("a", None),)), ((), "t", (("A",),)), ((), "ref", ())):
            self.assertFalse(is_declaration(("data", (wrong,))), wrong)

    def test_closed_types(self):
        for closed in (("con", ("int",), ()), ("tuple", ()), ("fn", ("tuple", ()), ("con", ("t",), ()))):
            self.assertTrue(is_expression(("typed", ONE, closed)))
            self.assertTrue(is_declaration(("exception", "E", closed)))
            self.assertTrue(is_signature(("sig", (("exception", "E", closed),))))
        for inner in (("var", "a"), ("eqvar", "a")):
            for wrong in (inner, ("con", ("list",), (inner,)), ("fn", ("tuple", ()), inner)):
                self.assertTrue(is_type_tree(wrong))
                self.assertFalse(is_expression(("typed", ONE, wrong)))
                self.assertFalse(is_declaration(("exception", "E", wrong)))
                self.assertFalse(is_signature(("sig", (("exception", "E", wrong),))))

    def test_signatures_and_functors_stand_in_units_alone(self):
        for tree in (("signature", "S", ("named", "T")), ("functor", "F", "X", ("named", "T"), ("at", ("X",)))):
            self.assertTrue(is_declaration(tree) and is_unit((tree,)))
            self.assertFalse(is_structure(("struct", (tree,))))

    def test_abstract_types_have_a_boolean(self):
        for eq in (True, False):
            self.assertTrue(is_signature(("sig", (("type", (), "t", eq),))))
        for eq in (None, 1, 0, "", VAR):
            self.assertFalse(is_signature(("sig", (("type", (), "t", eq),))), eq)

    def test_names_of_patterns(self):
        one, two = ("name", "x"), ("name", "y")
        for tree in (("tuple", (one, two)), ("as", "x", two), ("or", one, one), ("or", ANY, ANY),
                     ("or", ("tuple", (one, two)), ("tuple", (two, one))), ("or", ("as", "x", two), ("as", "y", one)),
                     ("tuple", (("or", one, one), two))):
            self.assertTrue(is_pattern(tree), tree)
        for tree in (("tuple", (one, one)), ("as", "x", one), ("or", one, ANY), ("or", ANY, one), ("or", one, two),
                     ("tuple", (("or", one, one), one)), ("or", ("tuple", (one, one)), ("tuple", (one, one))),
                     ("con", ("A",), ("tuple", (one, one))), ("as", "x", ("or", one, one)),
                     ("or", one, ("as", "x", two))):
            self.assertFalse(is_pattern(tree), tree)
            self.assertFalse(is_expression(("let", tree, ONE, ONE)), tree)
            self.assertFalse(is_expression(("fn", ((tree, None, ONE),))), tree)
            self.assertFalse(is_declaration(("val", tree, ONE)), tree)


def part_of(tree, place):
    for index in place:
        tree = tree[index]
    return tree


class LimitsTest(unittest.TestCase):
    def test_constants(self):
        self.assertEqual((MAX_DEPTH, MAX_NODES), (60, 3000))
        self.assertEqual((trees.MAX_DEPTH, trees.MAX_NODES), (60, 3000))

    def test_depth(self):
        for depth in (1, 59, 60, 61, 62, 200):
            self.assertEqual(is_expression(chain(depth)), depth <= 60, depth)
            self.assertEqual(is_declaration(("val", ANY, chain(depth))), depth <= 59, depth)
            self.assertEqual(is_unit((("val", ANY, chain(depth)),)), depth <= 59, depth)
            self.assertEqual(is_expression(("fn", ((ANY, chain(depth), ONE),))), depth <= 59, depth)
            self.assertEqual(is_declaration(("rec", (("f", ((ANY, None, chain(depth)),)),))), depth <= 59, depth)

    def test_depth_of_other_trees(self):
        pattern, kind, structure, signature = ANY, VAR, ("at", ("A",)), ("named", "S")
        for depth in range(2, 64):
            pattern = ("con", ("A",), pattern)
            kind = ("con", ("list",), (kind,))
            structure = ("apply", "F", structure)
            signature = ("where", signature, ("t",), (), VAR)
            self.assertEqual(is_pattern(pattern), depth <= 60)
            self.assertEqual(is_type_tree(kind), depth <= 60)
            self.assertEqual(is_structure(structure), depth <= 60)
            self.assertEqual(is_signature(signature), depth <= 60)
            self.assertEqual(is_declaration(("data", (((), "t", (("A", kind),)),))), depth <= 59)
            self.assertEqual(is_signature(("sig", (("include", signature),))), depth <= 58)

    def test_nodes(self):
        for nodes in (2, 2999, 3000, 3001, 5000):
            wide = ("tuple", (ONE,) * (nodes - 1))
            self.assertEqual(is_expression(wide), nodes <= 3000 and nodes != 2, nodes)

    def test_nodes_of_a_unit(self):
        one = ("val", ANY, ("tuple", (ONE,) * 997))
        two = ("open", ("A",))
        self.assertEqual(nodes_in(one), 1000)
        self.assertTrue(is_unit((one, one, one)))
        self.assertFalse(is_unit((one, one, one, two)))
        self.assertTrue(is_unit((two,) * 3000))
        self.assertFalse(is_unit((two,) * 3001))
        self.assertTrue(is_structure(("struct", (two,) * 2999)))
        self.assertFalse(is_structure(("struct", (two,) * 3000)))


class PlacesTest(unittest.TestCase):
    def test_places_of_all_nodes(self):
        tree = ("letrec", (("f", ((ANY, ONE, ("int", 2)),)),), ("typed", ONE, ("con", ("int",), ())))
        self.assertEqual(places_in(tree), (
            (), (1, 0, 1, 0, 0), (1, 0, 1, 0, 1), (1, 0, 1, 0, 2), (2,), (2, 1), (2, 2)))
        group = ("data", ((("a",), "t", (("A", None), ("B", ("tuple", (VAR, VAR))))), ((), "u", (("C", VAR),))))
        self.assertEqual(places_in(group), (
            (), (1, 0, 2, 1, 1), (1, 0, 2, 1, 1, 1, 0), (1, 0, 2, 1, 1, 1, 1), (1, 1, 2, 0, 1)))
        functor = ("functor", "F", "X", ("where", ("named", "S"), ("t",), ("a",), VAR), ("struct", (("open", ("X",)),)))
        self.assertEqual(places_in(functor), ((), (3,), (3, 1), (3, 4), (4,), (4, 1, 0)))
        self.assertEqual(places_in((functor, ("open", ("A",))))[0], (0,))
        self.assertEqual(places_in(()), ())
        self.assertEqual(places_in(("exception", "E", None)), ((),))
        self.assertEqual(places_in(("con", ("A",), ("any",))), ((), (2,)))

    def test_places_are_ascending_and_lead_to_nodes(self):
        for kind in KINDS:
            for seed in range(60):
                tree = Maker(seed).any_tree(kind, seed % 5)
                places = places_in(tree)
                self.assertEqual(tuple(sorted(set(places))), places)
                self.assertEqual(nodes_in(tree), len(places))
                for place in places:
                    part = part_at(tree, place)
                    self.assertIs(type(part[0]), str)
                inner = [p for p in everywhere(tree) if isinstance(part_of(tree, p), tuple) and part_of(tree, p)]
                words = [p for p in inner if isinstance(part_of(tree, p)[0], str) and self.is_node(part_of(tree, p))]
                self.assertTrue(set(places) <= set(words))

    @staticmethod
    def is_node(part):
        return part[0].islower()

    def test_part_at(self):
        tree = ("let", ("name", "x"), ("con", ("A", "B")), ("fn", ((ANY, None, ONE),)))
        for place, part in (((), tree), ((0,), "let"), ((1,), ("name", "x")), ((1, 1), "x"), ((2, 1), ("A", "B")),
                            ((2, 1, 1), "B"), ((3, 1), ((ANY, None, ONE),)), ((3, 1, 0, 1), None),
                            ((3, 1, 0, 2, 1), 1), ((3, 1, 0), (ANY, None, ONE))):
            self.assertEqual(part_at(tree, place), part)

    def test_places_that_lead_nowhere(self):
        tree = ("let", ("name", "x"), ("con", ("A", "B")), ("fn", ((ANY, None, ONE),)))
        for place in ((4,), (1, 2), (1, 1, 0), (0, 0), (3, 1, 1), (3, 1, 0, 1, 0), (3, 1, 0, 2, 1, 0), (10 ** 59,),
                      (-1,), (True,), (1, True), (1.0,), ("1",), (None,), [1], 1, None, "1", (10 ** 80,), ((1,),), {}):
            with self.assertRaises(InvalidOperation):
                part_at(tree, place)

    def test_no_trees(self):
        for value in (*ODD, [("open", ("A",))], ((ANY, None, ONE),), ("sig", (1,)), ("val", "x", VAR), chain(61)):
            if any(judged(kind, value) for kind in KINDS):
                continue
            for call in (lambda: part_at(value, ()), lambda: part_at(value, None), lambda: places_in(value),
                         lambda: nodes_in(value), lambda: names_bound(value)):
                with self.assertRaises(InvalidTree):
                    call()

    def test_names_bound(self):
        one, two = ("name", "x"), ("name", "a")
        self.assertEqual(names_bound(ANY), ())
        self.assertEqual(names_bound(("tuple", (one, two))), ("a", "x"))
        self.assertEqual(names_bound(("as", "y", ("con", ("A",), ("tuple", (one, two))))), ("a", "x", "y"))
        self.assertEqual(names_bound(("or", ("tuple", (one, two)), ("tuple", (two, one)))), ("a", "x"))
        self.assertEqual(names_bound(("or", ("int", 1), ("con", ("A",), None))), ())
        for value in (("raise", ONE), ("tuple", (one, one)), VAR, ("or", one, two), *ODD):
            if judged("pattern", value):
                continue
            with self.assertRaises(InvalidTree):
                names_bound(value)

    def test_arguments_are_not_changed(self):
        given = [("int", 1), {"a": []}]
        is_unit(given)
        self.assertEqual(given, [("int", 1), {"a": []}])
