"""Shells: part 12c."""

import unittest

from letquay.desk.desk import Desk
from letquay.desk.sessions import Session
from letquay.errors import InvalidOperation
from letquay.text.shell import Shell
from tests.odd import ODD


class ShellTest(unittest.TestCase):
    def answers(self, shell, *pairs):
        for line, wanted in pairs:
            self.assertEqual(shell(line), wanted, line)

    def test_examples(self):
        shell = Shell((7,))
        self.answers(
            shell, ("do val rec len = fn [] => 0 | _ :: l => 1 + len l end", "val len : 'a list -> int = fn"),
            ("do len (read () :: [])", "val it : int = 1"), ("do 1 div (it - 1)", "refused raised Div"), ("do val x =", "text 7"),
            ("back", "val it = len (read () :: [])"), ("put Cell = struct val one = 1 end", "Cell typed"),
            ("put Use Cell = struct val two = Cell.one + 1 end", "Use typed"), ("put Cell = struct val one = 2 end", "none"), ("made", "Cell"), ("run", "done"))
        self.assertEqual((len(shell), str(shell)), (8, "shell of 8 commands"))

    def test_the_session(self):
        shell = Shell((3,))
        for line, wanted in (
                ("do print \"a\"", "a\nval it : unit = ()"), ("do val _ = 1", "none"), ("do structure S = struct val x = 1 end", "structure S"), ("do open S", "none"),
                ("do val y = x", "val y : int = 1"), ("text y", "1"), ("scheme y", "int"), ("text z", "unknown z"), ("scheme z", "unknown z"), ("text Y", "what"), ("text", "what"),
                ("text y z", "what"), ("scheme val", "what"), ("ask fn x => x end", "'a -> 'a"), ("ask y 1", "refused clash"), ("ask val x = 1", "text 0"), ("ask ", "text 0"),
                ("do val x = z", "refused unbound"), ("do let rec f = fn () => f () end in (f () : int) end", "refused long"), ("do ", "text 0"), ("do", "what"), ("ask", "what"),
                ("do val x = ref []", "refused open"), ("back 2", "val y = x; open S"), ("again 2", "open S; val y = x"), ("again", "nothing 1"), ("back 6", "nothing 6"),
                ("back 0", "none"), ("again 0", "none"), ("back 00", "what"), ("back 01", "what"), ("back -1", "what"), ("back ~1", "what"), ("back x", "what"),
                ("back 1 1", "what"), ("back ", "what"), ("back  1", "what"), ("back 99999999999999999999", "nothing 99999999999999999999"), ("back " + "9" * 61, "what"),
                ("do val x = (1, 2, 3, 4)", "val x : int * int * int * int = (1, 2, 3, 4)")):
            self.assertEqual(shell(line), wanted, line)
        for name, inner in zip("abc", "xab"):
            self.assertTrue(shell(f"do val {name} = ({inner}, {inner}, {inner}, {inner})").startswith(f"val {name} : (") or name == "c")
        self.assertEqual(shell("do (b, b, b, b)"), "many 300")
        self.assertEqual(shell("do fn " + " | ".join(["1 => 1"] * 1499) + " end"), "many 3000")

    def test_the_desk(self):
        shell = Shell()
        for line, wanted in (
                ("units", "none"), ("verdicts", "none"), ("claims", "none"), ("made", "none"), ("run", "cannot"), ("undo", "nothing 1"), ("redo 3", "nothing 3"), ("undo 0", "none"),
                ("put Use Cell = struct val two = Cell.one end", "Use lacks Cell"), ("run", "cannot"), ("demand typed Use", "refused typed Use"),
                ("put Cell = struct val one = 1 end :> sig val one : int end", "Cell typed; Use typed"), ("made", "Cell; Use"), ("units", "Cell; Use"), ("verdicts", "Cell typed; Use typed"),
                ("demand has Use two", "none"), ("demand uses Use Cell", "none"), ("demand keeps Cell", "none"), ("demand keeps Cell", "cannot"), ("demand typed No", "unknown No"),
                ("claims", "has Use two; uses Use Cell; keeps Cell"), ("take Cell", "refused has Use two"), ("put Cell = struct val one = True end", "refused keeps Cell"),
                ("put Use = struct val two = 1 end", "refused uses Use Cell"), ("waive keeps Cell", "none"), ("waive keeps Cell", "cannot"), ("waive typed No", "cannot"),
                ("put Cell = struct val one = True end", "none"), ("made", "Cell; Use"), ("undo 2", "none"), ("claims", "has Use two; uses Use Cell; keeps Cell"), ("redo", "none"),
                ("redo", "none"), ("redo", "nothing 1"), ("made", "none"), ("put Bad = struct val x = y end", "Bad refused unbound"), ("put Wait Bad = struct end", "Wait waits Bad"),
                ("put A B = struct end", "A lacks B"), ("put B A = struct end", "A ring; B ring"), ("verdicts", "A ring; B ring; Bad refused unbound; Cell typed; Use typed; Wait waits Bad"),
                ("take Bad", "Bad -; Wait lacks Bad"), ("take Bad", "unknown Bad"), ("take No", "unknown No"), ("take a", "what"), ("take", "what"), ("take A B", "what"),
                ("undo 01", "what"), ("redo x", "what"), ("units x", "what"), ("verdicts ", "what"), ("claims 1", "what"), ("made 1", "what")):
            self.assertEqual(shell(line), wanted, line)
        self.assertEqual(str(shell), f"shell of {len(shell)} commands")

    def test_put(self):
        shell = Shell()
        for line, wanted in (
                ("put", "what"), ("put U", "what"), ("put U =", "what"), ("put = struct end", "what"), ("put u = struct end", "what"), ("put U u = struct end", "what"),
                ("put U U = struct end", "what"), ("put U A A = struct end", "what"), ("put  U = struct end", "what"), ("put U A B C D E F G H = struct end", "what"),
                ("put U A B C D E F G = struct end", "U lacks A"), ("put U = ", "text 0"), ("put U = struct", "text 6"), ("put U = struct end end", "text 11"), ("put U = X", "text"),
                ("put U = F(struct end)", "text"), ("put U = struct end : sig end", "text"), ("put U = X :> sig end", "text"), ("put U = struct end :> sig end :> sig end", "text"),
                ("put U = struct end :> S", "U refused unbound"), ("put U=struct end", "what"), ("put U = struct functor F(X : sig end) = X end", "text 37"),
                ("put U = struct val x = 1 = 2 end", "U typed"), ("put U =  struct end", "none")):
            self.assertEqual(shell(line), wanted, line)

    def test_run(self):
        shell = Shell((1, 2))
        shell('put A = struct val _ = print "a" val x = read () end')
        shell('put B A = struct val _ = print (text (A.x div read ())) val r = ref 0 end')
        for line, wanted in (
                ("run 7 2", "a\n3\ndone"), ("run ~7 2", "a\n~4\ndone"), ("run 7 0", "a\nraised Div"), ("run", "a\nraised End"), ("run 7 2 9", "a\n3\ndone"), ("run 07 2", "what"),
                ("run 7  2", "what"), ("run ", "what"), ("run x", "what"), ("run ~0", "what"), ("run 00", "what"), ("run -1", "what"), ("run 4611686018427387904", "what"),
                ("run 4611686018427387903 1", "a\n4611686018427387903\ndone"), ("run 1;2", "what"), ("run 1\n2", "what"), ('run "a"', "what")):
            self.assertEqual(shell(line), wanted, line)
        shell("put C A = struct val rec f = fn n => f (n + 1) end val _ = (f 0 : int) end")
        self.assertEqual(shell("run 7 2"), "a\n3\nlong")

    def test_what_is_no_command(self):
        shell = Shell()
        for line in (*ODD, "", " ", "Do 1", "do1", "nothing", "do\n1", "quit", " do 1", "units\n", "demand", "demand typed", "demand typed x", "demand typed X Y", "demand uses X x",
                     "demand has X Y", "demand keeps", "demand nothing X", "demand  typed X", "waive typed", "waive X"):
            self.assertEqual(shell.answer(line), "what", line)
        self.assertEqual(len(shell), 0)
        self.assertEqual(str(shell), "shell of 0 commands")

    def test_errors_change_nothing(self):
        shell = Shell()
        shell("do val x = 1")
        shell("put U = struct end")
        session, desk = shell.session(), shell.desk()
        for line in ("do (print \"a\"; 1 div 0)", "do y", "back 9", "put V = X", "take W", "undo 4", "demand has U x", "nothing", "text q"):
            shell(line)
        self.assertEqual((shell.session() == session, shell.desk() == desk, len(shell)), (True, True, 2))

    def test_twins(self):
        shell = Shell((5,))
        shell("do read ()")
        shell("put U = struct end")
        session, desk = shell.session(), shell.desk()
        self.assertTrue(isinstance(session, Session) and isinstance(desk, Desk))
        session.undo()
        desk.take("U")
        self.assertEqual((shell("text it"), shell("units"), session.inputs), ("5", "U", (5,)))
        self.assertEqual((shell("back"), len(shell)), ("val it = read ()", 5))
        with self.assertRaises(TypeError):
            list(shell)

    def test_wrong_inputs(self):
        for wrong in (None, 1, [1], (True,), ("1",), (2 ** 62,)):
            self.assertRaises(InvalidOperation, Shell, wrong)


if __name__ == "__main__":
    unittest.main()
