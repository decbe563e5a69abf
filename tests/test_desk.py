"""Desks: promises [12.4] to [12.6], part 12b."""

import random
import unittest

from letquay.desk.desk import MAX_CLAIMS, MAX_UNITS, Desk
from letquay.errors import InvalidNumber, InvalidOperation, InvalidUnit, NothingToUndo, Refused, TooMany, UnknownName
from letquay.text.reader import read_unit
from letquay.units.links import anew, compiled_all
from letquay.units.units import Compiled
from tests.odd import ODD
from tests.test_units import unit

CELL = unit("Cell", (), "datatype t = A | B of int val one = 1")
USE = unit("Use", ("Cell",), "val two = Cell.one + 1")
TOP = unit("Top", ("Use", "Cell"), "val three = Use.two + Cell.one")


def state(desk):
    parts = [(name, desk.part(name)) for name in desk.names if desk.verdicts[name] == ("typed",)]
    return desk.names, [desk[name] for name in desk.names], desk.verdicts, desk.claims, parts, str(desk), len(desk)


def desk_of(*units):
    desk = Desk()
    for each in units:
        desk.put(each)
    return desk


def reason_of(call, *args):
    try:
        call(*args)
    except Refused as refused:
        return refused.reason
    return None


class VerdictsTest(unittest.TestCase):
    def test_each_verdict(self):
        typed = ("typed",)
        great = unit("Great", (), "".join(f"val {x} = ({y}, {y}, {y}) " for x, y in zip("abcdefgh", ("1", *"abcdefgh"))))
        for units, wanted in (
                ((CELL,), {"Cell": typed}), ((USE,), {"Use": ("lacks", "Cell")}), ((USE, CELL), {"Cell": typed, "Use": typed}),
                ((unit("A", ("B", "X", "C"), ""), unit("B", (), "")), {"A": ("lacks", "X"), "B": typed}),
                ((unit("A", ("B",), ""), unit("B", ("A",), "")), {"A": ("ring",), "B": ("ring",)}),
                ((unit("A", ("B",), ""), unit("B", ("C",), ""), unit("C", ("A",), ""), unit("D", ("C", "A"), "")),
                 {"A": ("ring",), "B": ("ring",), "C": ("ring",), "D": ("waits", "C")}),
                ((unit("A", ("B", "X"), ""), unit("B", ("A",), "")), {"A": ("lacks", "X"), "B": ("ring",)}),
                ((unit("A", ("B", "C"), ""), unit("B", (), "val x = y"), unit("C", ("X",), "")), {"A": ("waits", "B"), "B": ("refused", "unbound"), "C": ("lacks", "X")}),
                ((unit("A", ("C", "B"), ""), unit("B", (), "val x = 1 1"), unit("C", (), "")), {"A": ("waits", "B"), "B": ("refused", "clash"), "C": typed}),
                ((great, unit("A", ("Great",), "")), {"A": ("waits", "Great"), "Great": ("refused", "many")}),
                ((unit("A", ("Cell",), "structure Cell = struct end"), CELL), {"A": ("refused", "twice"), "Cell": typed})):
            for handed in (units, units[::-1]):
                desk = desk_of(*handed)
                self.assertEqual(desk.verdicts, wanted)
                self.assertEqual((list(desk.verdicts), desk.names, len(desk)), (sorted(wanted), tuple(sorted(wanted)), len(wanted)))

    def test_news(self):
        desk = Desk()
        self.assertEqual(desk.put(TOP), (("Top", ("lacks", "Use")),))
        self.assertEqual(desk.put(USE), (("Top", ("lacks", "Cell")), ("Use", ("lacks", "Cell"))))
        self.assertEqual(desk.put(CELL), (("Cell", ("typed",)), ("Top", ("typed",)), ("Use", ("typed",))))
        self.assertEqual(desk.put(CELL.with_declarations(read_unit("val one = 2"))), ())
        self.assertEqual(desk.put(CELL.with_declarations(read_unit("val one = True"))), (("Top", ("waits", "Use")), ("Use", ("refused", "clash"))))
        self.assertEqual(desk.take("Use"), (("Top", ("lacks", "Use")), ("Use", None)))
        self.assertEqual(desk.undo(many=2), (("Top", ("typed",)), ("Use", ("typed",))))
        self.assertEqual(desk.redo(many=2), (("Top", ("lacks", "Use")), ("Use", None)))
        self.assertEqual(desk.undo(many=6), (("Cell", None), ("Top", None)))
        self.assertEqual((desk.names, desk.redo(many=0), desk.undo(many=0)), ((), (), ()))


class MadeTest(unittest.TestCase):
    def test_what_is_made(self):
        desk = Desk()
        self.assertEqual(desk.made, ())
        for call, wanted in (
                (lambda: desk.put(TOP), ()), (lambda: desk.put(CELL), ("Cell",)), (lambda: desk.put(USE), ("Top", "Use")), (lambda: desk.put(USE), ()),
                (lambda: desk.put(CELL.with_declarations(read_unit("datatype t = A | B of int val one = 2"))), ("Cell",)),
                (lambda: desk.put(CELL.with_declarations(read_unit("val one = 2"))), ("Cell", "Top", "Use")),
                (lambda: desk.put(USE.with_declarations(read_unit("val two = 5"))), ("Use",)),
                (lambda: desk.put(USE.with_declarations(read_unit("val two = 5 val more = 1"))), ("Top", "Use")),
                (lambda: desk.demand(("typed", "Use")), ()), (lambda: desk.put(CELL), ("Cell", "Top", "Use")), (lambda: desk.undo(), ()), (lambda: desk.redo(), ()),
                (lambda: desk.put(USE), ("Top", "Use")), (lambda: desk.waive(("typed", "Use")), ()),
                (lambda: desk.revise("Top", lambda old: old.with_declarations(())), ("Top",)), (lambda: desk.take("Top"), ())):
            call()
            self.assertEqual(desk.made, wanted)

    def test_a_unit_that_was_not_typed_for_some_time(self):
        """[12.6]: it need not be compiled anew."""
        desk = desk_of(CELL, USE, TOP)
        part = desk.part("Use")
        desk.put(USE.with_declarations(read_unit("val two = nothing")))
        self.assertRaises(InvalidOperation, desk.part, "Use")
        self.assertEqual(desk.verdicts["Top"], ("waits", "Use"))
        desk.put(USE)
        self.assertEqual((desk.made, desk.part("Use") is part), ((), True))
        desk.take("Cell")
        self.assertEqual(desk.verdicts, {"Top": ("lacks", "Cell"), "Use": ("lacks", "Cell")})
        desk.put(CELL)
        self.assertEqual((desk.made, desk.part("Use") is part), (("Cell",), True))
        desk.take("Use")
        desk.put(USE)
        self.assertEqual((desk.made, desk.part("Use") == part), (("Use",), True))
        desk.put(USE.with_declarations(read_unit("val two = Cell.one + 2")))
        self.assertEqual(desk.made, ("Use",))

    def test_undo_compiles_nothing(self):
        desk = desk_of(CELL, USE)
        part = desk.part("Use")
        desk.take("Use")
        desk.undo()
        self.assertIs(desk.part("Use"), part)
        desk.redo()
        desk.put(USE)
        self.assertEqual(desk.made, ("Use",))

    def test_parts_and_users(self):
        desk = desk_of(CELL, USE, TOP, unit("Bad", ("Cell",), "val x = y"))
        self.assertEqual((desk.users("Cell"), desk.users("Top"), desk["Use"]), (("Bad", "Top", "Use"), (), USE))
        self.assertEqual((isinstance(desk.part("Top"), Compiled), desk.part("Top").unit), (True, TOP))
        self.assertRaises(InvalidOperation, desk.part, "Bad")
        for wrong in (*ODD, "Nope"):
            for call in (desk.part, desk.users, desk.take, lambda name: desk[name], lambda name: desk.revise(name, lambda old: 1 // 0)):
                with self.assertRaises(UnknownName) as caught:
                    call(wrong)
                self.assertIs(caught.exception.wanted, wrong)
            self.assertFalse(wrong in desk)
        self.assertTrue("Cell" in desk)

    def test_against_compiling_all(self):
        """Random changes: parts are as if all were compiled at once, and what is made is what must be."""
        rng = random.Random(9)
        texts = {
            "A": ("val x = 1", "val x = 2", "val x = True", "datatype t = K val x = 1", "val y = 1", "val x = nope"),
            "B": ("val z = A.x", "val z = A.x + 1", "val z = (A.x, 1)", "val z = 5"), "C": ("val w = B.z", "val w = 7", "val w = B.z + 1"),
            "D": ("val v = (A.x, C.w)", "val v = A.K")}
        uses = {"A": (), "B": ("A",), "C": ("B",), "D": ("C", "A")}
        desk = Desk()
        kept = {}
        for _ in range(150):
            name = rng.choice("ABCD")
            if rng.random() < 0.2 and name in desk:
                desk.take(name)
                kept.pop(name, None)
            else:
                desk.put(unit(name, uses[name], rng.choice(texts[name])))
            typed = tuple(desk[each] for each in desk.names if desk.verdicts[each] == ("typed",))
            if typed:
                wanted = {part.unit.name: part for part in compiled_all(typed)}
                self.assertEqual({each.name: desk.part(each.name) for each in typed}, wanted)
                self.assertEqual(desk.made, anew(tuple(kept.values()), typed))
                kept.update({each.name: desk.part(each.name) for each in typed})


class ClaimsTest(unittest.TestCase):
    def test_claims(self):
        desk = desk_of(CELL, USE, unit("Bad", (), "val x = y"))
        for claim, holds in (
                (("typed", "Use"), True), (("typed", "Bad"), False), (("uses", "Use", "Cell"), True), (("uses", "Cell", "Use"), False), (("uses", "Bad", "Cell"), False),
                (("has", "Use", "two"), True), (("has", "Use", "three"), False), (("has", "Bad", "x"), False), (("keeps", "Cell"), True), (("keeps", "Bad"), False)):
            if holds:
                self.assertEqual(desk.demand(claim), ())
                self.assertEqual(desk.claims[-1], claim)
                self.assertRaises(InvalidOperation, desk.demand, claim)
            else:
                self.assertEqual(reason_of(desk.demand, claim), claim)
        self.assertEqual(str(desk), "desk of 3 units, 4 claims")
        self.assertEqual(desk.waive(("has", "Use", "two")), ())
        self.assertEqual(desk.claims, (("typed", "Use"), ("uses", "Use", "Cell"), ("keeps", "Cell")))
        self.assertRaises(InvalidOperation, desk.waive, ("has", "Use", "two"))

    def test_wrong_claims(self):
        desk = desk_of(CELL)
        for wrong in (*ODD, ("typed",), ("typed", "cell"), ("typed", "Cell", "x"), ("uses", "Cell"), ("uses", "Cell", "x"), ("has", "Cell"), ("has", "Cell", "X"),
                      ("keeps", "Cell", "Cell"), ["typed", "Cell"], ("typed", ["Cell"]), (["typed"], "Cell"), ("other", "Cell")):
            self.assertRaises(InvalidOperation, desk.demand, wrong)
            self.assertRaises(InvalidOperation, desk.waive, wrong)
        for claim, name in ((("typed", "No"), "No"), (("uses", "No", "Not"), "No"), (("uses", "Cell", "Not"), "Not"), (("has", "No", "x"), "No"), (("keeps", "No"), "No")):
            with self.assertRaises(UnknownName) as caught:
                desk.demand(claim)
            self.assertEqual(caught.exception.wanted, name)
            self.assertRaises(InvalidOperation, desk.waive, claim)

    def test_too_many(self):
        text = "val " + " val ".join(f"{letter} = 1" for letter in "abcdefghi")
        desk = desk_of(unit("U", (), text))
        for letter in "abcdefgh":
            desk.demand(("has", "U", letter))
        for claim in (("has", "U", "i"), ("has", "U", "z")):
            with self.assertRaises(TooMany) as caught:
                desk.demand(claim)
            self.assertEqual(caught.exception.limit, 8)
        self.assertRaises(UnknownName, desk.demand, ("typed", "No"))
        self.assertRaises(InvalidOperation, desk.demand, ("has", "U", "a"))
        self.assertEqual((MAX_UNITS, MAX_CLAIMS), (8, 8))

    def test_changes_that_claims_refuse(self):
        desk = desk_of(CELL, USE, TOP)
        claims = (("has", "Use", "two"), ("typed", "Top"), ("keeps", "Cell"), ("uses", "Use", "Cell"))
        for claim in claims:
            desk.demand(claim)
        before = state(desk)
        for call, wanted in (
                (lambda: desk.take("Use"), claims[0]), (lambda: desk.take("Top"), claims[1]), (lambda: desk.take("Cell"), claims[0]),
                (lambda: desk.put(CELL.with_declarations(read_unit("datatype t = A | B of int val one = 1 val more = 1"))), claims[2]),
                (lambda: desk.put(CELL.with_declarations(read_unit("val one = True"))), claims[0]),
                (lambda: desk.put(unit("Use", (), "val two = 1")), claims[3]), (lambda: desk.put(unit("Use", ("Cell",), "val too = 1")), claims[0]),
                (lambda: desk.revise("Top", lambda old: old.with_declarations(read_unit("val x = nope"))), claims[1])):
            self.assertEqual(reason_of(call), wanted)
            self.assertEqual(state(desk), before)
        self.assertEqual(desk.put(CELL.with_declarations(read_unit("datatype t = A | B of int val one = 9"))), ())
        desk.undo()
        desk.waive(("keeps", "Cell"))
        desk.put(CELL.with_declarations(read_unit("val one = 4")))
        desk.demand(("keeps", "Cell"))
        self.assertEqual(reason_of(desk.put, CELL), ("keeps", "Cell"))

    def test_claims_are_undone(self):
        desk = desk_of(CELL)
        desk.demand(("keeps", "Cell"))
        self.assertEqual((desk.undo(), desk.claims), ((), ()))
        desk.put(CELL.with_declarations(read_unit("val one = 4")))
        self.assertRaises(NothingToUndo, desk.redo)
        desk.demand(("keeps", "Cell"))
        desk.undo()
        self.assertEqual((desk.redo(), desk.claims), ((), (("keeps", "Cell"),)))
        self.assertEqual(reason_of(desk.put, CELL), ("keeps", "Cell"))


class DeskTest(unittest.TestCase):
    def test_wrong_units(self):
        desk = desk_of(CELL)
        for odd in ODD:
            self.assertRaises(InvalidUnit, desk.put, odd)
            self.assertRaises(InvalidUnit, desk.revise, "Cell", lambda old: odd)
        self.assertRaises(InvalidOperation, desk.revise, "Cell", lambda old: USE)
        self.assertEqual(desk.revise("Cell", lambda old: old.with_declarations(read_unit("val x = y"))), (("Cell", ("refused", "unbound")),))

        def fails(old):
            raise KeyError("x")
        self.assertRaises(KeyError, desk.revise, "Cell", fails)
        self.assertEqual((desk.undo(), desk["Cell"]), ((("Cell", ("typed",)),), CELL))

    def test_nine_units(self):
        desk = desk_of(*[unit(name, (), "") for name in "ABCDEFGH"])
        desk.demand(("typed", "A"))
        with self.assertRaises(TooMany) as caught:
            desk.put(unit("I", (), ""))
        self.assertEqual((caught.exception.limit, len(desk)), (8, 8))
        desk.put(unit("H", (), "val x = 1"))
        desk.take("H")
        desk.put(unit("I", (), ""))

    def test_undo_and_redo(self):
        desk = Desk()
        states = [state(desk)]
        for call in (lambda: desk.put(CELL), lambda: desk.put(USE), lambda: desk.demand(("keeps", "Cell")), lambda: desk.put(TOP),
                     lambda: desk.revise("Top", lambda old: old.with_declarations(())), lambda: desk.waive(("keeps", "Cell")), lambda: desk.take("Cell")):
            call()
            states.append(state(desk))
        rng = random.Random(2)
        at = 7
        for _ in range(60):
            many = rng.randint(0, 8)
            back = rng.random() < 0.5
            if many > (at if back else 7 - at):
                with self.assertRaises(NothingToUndo) as caught:
                    (desk.undo if back else desk.redo)(many=many)
                self.assertEqual(caught.exception.many, many)
            else:
                (desk.undo if back else desk.redo)(many=many)
                at = at - many if back else at + many
            self.assertEqual(state(desk), states[at])
        for wrong in (-1, True, None, "1", 10 ** 70):
            self.assertRaises(InvalidNumber, desk.undo, many=wrong)
            self.assertRaises(InvalidNumber, desk.redo, many=wrong)
        desk.undo(many=at)
        self.assertEqual(reason_of(desk.demand, ("typed", "Cell")) if "Cell" in desk else None, None)
        desk.put(TOP)
        self.assertRaises(NothingToUndo, desk.redo)

    def test_during(self):
        desk = desk_of(CELL, USE)
        desk.demand(("typed", "Use"))
        desk.undo()
        before = (*state(desk), desk.made)

        def play(inner):
            inner.put(TOP)
            inner.take("Use")
            inner.undo(many=3)
            return inner.names
        self.assertEqual(desk.during(play), ("Cell",))
        self.assertEqual((*state(desk), desk.made), before)

        def fail(inner):
            inner.take("Use")
            raise ValueError("x")
        self.assertRaises(ValueError, desk.during, fail)
        self.assertEqual((*state(desk), desk.made), before)
        self.assertEqual((desk.redo(), desk.claims), ((), (("typed", "Use"),)))
        desk.put(TOP)
        self.assertEqual((desk.during(lambda inner: inner.take("Top")), desk.made), ((("Top", None),), ("Top",)))

    def test_twins_and_equality(self):
        desk = desk_of(CELL, USE)
        desk.demand(("keeps", "Cell"))
        twin = desk.twin()
        self.assertTrue(twin == desk)
        twin.take("Use")
        self.assertTrue(twin != desk)
        self.assertEqual((len(twin), len(desk), twin.undo(), twin == desk), (1, 2, (("Use", ("typed",)),), True))
        other = desk_of(USE, CELL)
        self.assertTrue(desk != other)
        other.put(CELL.with_declarations(read_unit("val one = 5")))
        other.demand(("keeps", "Cell"))
        self.assertTrue(desk != other)
        third = desk_of(USE, CELL)
        third.demand(("keeps", "Cell"))
        self.assertTrue(desk == third)
        for odd in ODD:
            self.assertFalse(desk == odd)
        for call in (list, iter):
            self.assertRaises(TypeError, call, desk)

    def test_nothing_is_shared(self):
        desk = desk_of(CELL)
        desk.verdicts.clear()
        self.assertEqual(desk.verdicts, {"Cell": ("typed",)})

    def test_outcome(self):
        desk = desk_of(CELL, USE)
        self.assertEqual([desk.outcome(), desk.outcome((), most=1)], [("done",), ("long",)])
        desk.put(unit("Zed", ("Use",), "val x = read () div 0"))
        self.assertEqual([desk.outcome((1,)), desk.outcome()], [("raised", "Div"), ("raised", "End")])
        for wrong in ((True,), [1], None, (2 ** 62,)):
            self.assertRaises(InvalidOperation, desk.outcome, wrong)
        for wrong in (-1, 100001, True, None):
            self.assertRaises(InvalidNumber, desk.outcome, most=wrong)
            self.assertRaises(InvalidNumber, Desk().outcome, most=wrong)
            self.assertRaises(InvalidOperation, desk.outcome, None, most=wrong)
        self.assertRaises(InvalidOperation, Desk().outcome)
        desk.put(unit("Bad", (), "val x = y"))
        self.assertRaises(InvalidOperation, desk.outcome)


if __name__ == "__main__":
    unittest.main()
