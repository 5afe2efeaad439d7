"""The texts of programs, there and back: [19]."""

import unittest

from tests.odd import odd_objects
from tests.test_runs import chance_programs, nested
from truestops.errors import Fault, InvalidProgram, InvalidText
from truestops.programs import Program, program_text, read_program

WHOLE = """prime 5
shared (n, m)
procedure twice (x, z) (y)
  own (t, s)
  ia: read t
  ib: set y = 2 t + 1 x + 3
procedure void () ()
main
  own (k)
  p: pick
    arm
      pa: print 1 n
    arm
      own (o)
    arm
    arm
      w: again
        own (i)
        wa: print 0
        wb: pass
  c: call twice (1 k + 4 n + 1; 0) (n)
  d: call void () ()
  e: set n = 4"""


def whole():
    inner = (["t", "s"], [("read", "ia", "t"), ("set", "ib", "y", {"x": 1, "": 3, "t": 2})])
    arms = [
        ([], [("print", "pa", {"n": 1})]), (["o"], []), ([], []),
        ([], [("again", "w", (["i"], [("print", "wa", {}), ("pass", "wb")]))]),
    ]
    steps = [
        ("pick", "p", arms), ("call", "c", "twice", [{"n": 4, "": 1, "k": 1}, {}], ["n"]),
        ("call", "d", "void", [], []), ("set", "e", "n", {"": 4}),
    ]
    return Program(5, ["n", "m"], [("twice", ["x", "z"], ["y"], inner), ("void", [], [], ([], []))], (["k"], steps))


class Point19(unittest.TestCase):
    def fault(self, value, text):
        with self.assertRaises(Fault) as caught:
            read_program(text)
        self.assertEqual(repr(caught.exception.value), repr(value), text)

    def lines(self, value, *lines):
        self.fault(value, "\n".join(lines))

    def in_main(self, line, *more):
        """A line of main that is none there: the fourth one."""
        self.lines((4, "text"), "prime 5", "shared (x, y)", "main", line, *more)

    def test_there_and_back(self):
        self.assertEqual(program_text(whole()), WHOLE)
        self.assertEqual(read_program(WHOLE), whole())
        self.assertEqual(program_text(read_program(WHOLE)), WHOLE)

    def test_the_least_text(self):
        least = "prime 2\nshared ()\nmain"
        self.assertEqual(program_text(Program(2, [], [], ([], []))), least)
        self.assertEqual(read_program(least), Program(2, [], [], ([], [])))

    def test_chance_programs(self):
        for _, _, program in chance_programs(range(300)):
            self.assertEqual(read_program(program_text(program)), program)
        self.assertEqual(read_program(program_text(nested())), nested())

    def test_the_greatest_prime(self):
        text = "prime 65537\nshared (x)\nmain\n  a: set x = 65536 x + 65536"
        self.assertEqual(program_text(read_program(text)), text)
        self.lines((4, "text"), *text.split("\n")[:3], "  a: set x = 65537 x + 65536")

    def test_what_is_no_program_or_no_string(self):
        for bad in odd_objects():
            if not isinstance(bad, Program):
                with self.assertRaises(InvalidProgram) as caught:
                    program_text(bad)
                self.assertIs(caught.exception.value, bad)
            if not isinstance(bad, str):
                with self.assertRaises(InvalidText) as caught:
                    read_program(bad)
                self.assertIs(caught.exception.value, bad)

    def test_by_name(self):
        self.assertEqual(program_text(program=whole()), WHOLE)
        self.assertEqual(read_program(text=WHOLE), whole())

    def test_each_line_doubled_or_bent(self):
        lines = WHOLE.split("\n")
        for at in range(len(lines)):
            for bent in [" " + lines[at], lines[at] + " ", "  " + lines[at], lines[at] + ")", lines[at].upper(), "", lines[at][1:]]:
                with self.assertRaises(Fault) as caught:
                    read_program("\n".join(lines[:at] + [bent] + lines[at + 1:]))
                self.assertEqual(caught.exception.value, (at + 1, "text"))
            self.assertRaises(Fault, read_program, "\n".join(lines[:at] + [lines[at]] + lines[at:]))

    def test_a_wrong_first_line(self):
        rest = ["shared ()", "main"]
        for line in ["", "prime", "prime ", "prime x", "prime 05", "prime  5", " prime 5", "prime 5 ", "Prime 5", "prime -5", "prime +5",
                     "prime 5.0", "prime 00", "prime 1_1", "primes 5", "shared ()", "prime\t5", "prime 5\r"]:
            self.lines((1, "text"), line, *rest)
        for line in ["prime 0", "prime 1", "prime 4", "prime 6", "prime 65535", "prime 65539", "prime 1" + "0" * 30]:
            self.lines((1, "prime"), line, *rest)
            self.lines((1, "prime"), line, "nothing")
        self.fault((1, "text"), "")

    def test_a_wrong_second_line(self):
        for line in ["", "shared", "shared ", "shared(x)", "shared (x", "shared x", "shared (x,y)", "shared (x, )", "shared (X)", "shared ( x)",
                     "shared (x)(y)", "shared (, x)", "shared () ", "shared (x; y)", "share (x)", "shared (abcdefghi)", "main", "shared (x1)"]:
            self.lines((2, "text"), "prime 5", line, "main")
        self.lines((2, "text"), "prime 5")
        self.lines((2, "text"), "prime 5", "")

    def test_a_wrong_procedure_line(self):
        for line in ["", "procedure", "procedure p", "procedure p ()", "procedure p () () ", "procedure p ()()", "procedure p (x,y) ()",
                     "procedure  p () ()", "procedure P () ()", "procedure p (x) (y", "procedure p x y", "procedure () ()", "procedure p () () ()",
                     " procedure p () ()", "procedure p (1) ()", "procedure p () (Y)", "Main", "main ", " main", "shared ()", "a: pass", " a: pass"]:
            self.lines((3, "text"), "prime 5", "shared ()", line, "main")
            self.lines((4, "text"), "prime 5", "shared ()", "procedure q () ()", line, "main")

    def test_the_line_behind_the_last_one(self):
        self.lines((3, "text"), "prime 5", "shared ()")
        self.lines((4, "text"), "prime 5", "shared ()", "procedure p () ()")
        self.lines((5, "text"), "prime 5", "shared ()", "procedure p () ()", "  a: pass")
        self.lines((5, "text"), "prime 5", "shared ()", "main", "  a: pick")
        self.lines((6, "text"), "prime 5", "shared ()", "main", "  a: pick", "    arm")
        self.lines((7, "text"), "prime 5", "shared ()", "main", "  a: pick", "    arm", "      b: pass")
        self.assertEqual(len(read_program("prime 5\nshared ()\nmain\n  a: pick\n    arm\n    arm").body()[1][0][2]), 2)

    def test_more_lines_than_wanted(self):
        self.lines((4, "text"), "prime 5", "shared ()", "main", "")
        self.lines((4, "text"), "prime 5", "shared ()", "main", "main")
        self.lines((4, "text"), "prime 5", "shared ()", "main", "procedure p () ()")
        self.lines((5, "text"), "prime 5", "shared ()", "main", "  a: pass", "")

    def test_wrong_statements(self):
        for line in ["", " ", "  ", "a: pass", " a: pass", "   a: pass", "    a: pass", "  a:pass", "  a : pass", "  a: pass ", "  a: pass x",
                     "  : pass", "  A: pass", "  abcdefghi: pass", "  a: stop", "  a: ", "  a", "  a:  pass", "  own: ", "  arm",
                     "  a: read", "  a: read ", "  a: read X", "  a: read x y", "  a: read (x)", "  a: read 1", "\t a: pass", "  a: Read x"]:
            self.in_main(line)
            self.in_main(line, "  z: pass")

    def test_wrong_sums(self):
        for wanted in ["", " ", "00", "5", "01", "-1", "x", "1x", "1  x", "1 x ", " 1 x", "0 x", "5 x", "01 x", "1 X", "1 x+2", "1 x + ", "+ 1",
                       "1 x + 0", "1 y + 1 x", "1 x + 1 x", "1 + 1 x", "1 + 1", "1 x + 1 + 1", "1 x - 1", "1 x;1", "(1 x)", "1 abcdefghi", "0 + 1",
                       "1 x.y", "9" * 30, "1 x + 9" + "0" * 300]:
            for line in ["  a: set x = " + wanted, "  a: print " + wanted, "  a: call p (" + wanted + "; 0) ()"]:
                self.in_main(line)
        for line in ["  a: set x", "  a: set x =", "  a: set x=1", "  a: set = 1", "  a: set X = 1", "  a: set  = 1", "  a: set x  = 1", "  a: print"]:
            self.in_main(line)

    def test_wrong_calls(self):
        for words in ["", "p", "p ()", "p () () ", "p ()()", "p () () ()", "p 1 x", "p (x) ()", "p (1 x;1) ()", "p (1 x, 1) ()", "p (;) ()", "p (1; ) ()",
                      "p () (x;y)", "p () (x,y)", "p () (1 x)", "P () ()", " p () ()", "p  () ()", "() ()", "p (()) ()", "p () (x", "p (1 () (x)"]:
            self.in_main("  a: call " + words)

    def test_wrong_own_lines(self):
        for line in ["  own", "  own ()", "  own (x", "  own x", "  own (X)", "  own (x,y)", "  own (x) ", "  own  (x)", "own (x)", "    own (x)"]:
            self.in_main(line)
        self.lines((5, "text"), "prime 5", "shared ()", "main", "  a: pass", "  own (x)")
        self.lines((5, "text"), "prime 5", "shared ()", "main", "  own (x)", "  own (y)")
        self.lines((5, "text"), "prime 5", "shared ()", "main", "  a: again", "  own (x)")

    def test_wrong_arms(self):
        head = ["prime 5", "shared ()", "main", "  a: pick"]
        for line in ["", "  b: pass", "    b: pass", "  arm", "      arm", "    arm ", "    arm:", "    Arm", "    own (x)", "     arm"]:
            self.lines((5, "text"), *head, line)
            self.lines((6, "text"), *head, "    arm", line)
        self.lines((9, "text"), *head, *["    arm"] * 5)
        self.lines((8, "text"), *head, *["    arm"] * 3, "   arm")
        self.lines((6, "text"), *head[:3], "  a: again", "    b: pass", "    arm")

    def test_blocks_end_where_lines_stand_further_out(self):
        head = ["prime 5", "shared ()", "main", "  a: again", "    b: again"]
        program = read_program("\n".join(head + ["      c: pass", "    d: pass", "  e: pass"]))
        deeper = ([], [("again", "b", ([], [("pass", "c")])), ("pass", "d")])
        self.assertEqual(program.body(), ([], [("again", "a", deeper), ("pass", "e")]))
        self.lines((6, "text"), *head, "        c: pass")
        self.lines((7, "text"), *head, "    c: pass", "      d: pass")

    def test_texts_ahead_of_the_faults_of_parts(self):
        self.lines((5, "text"), "prime 5", "shared (x, x)", "main", "  a: read y", "  a pass")
        self.lines((2, "name"), "prime 5", "shared (x, x)", "main", "  a: read y", "  a: pass")
        self.lines((1, "prime"), "prime 4", "shared (x, x)", "main", "  a: read y", "  a pass")
        self.lines((4, "variable"), "prime 5", "shared (x)", "main", "  a: read y", "  a: pass")
        self.lines((5, "label"), "prime 5", "shared (x)", "main", "  a: read x", "  a: pass")
        self.lines((6, "call"), "prime 5", "shared (x)", "procedure p () ()", "main", "  a: read x", "  b: call p (1) ()")

    def test_words_as_names(self):
        text = "\n".join([
            "prime 5", "shared (own, arm)", "procedure main (pick) (again)", "  own: set again = 1 own + 1 pick", "main", "  own (pass, read)",
            "  main: call main (1 pass + 2) (own)", "  arm: pick", "    arm", "      call: pass", "    arm", "  print: print 1 arm", "  set: read read",
        ])
        self.assertEqual(program_text(read_program(text)), text)

    def test_other_signs(self):
        for sign in ["\u00e9", "\u00b2", "\u0661", "\x00", "\r"]:
            self.lines((1, "text"), "prime " + sign, "shared ()", "main")
            self.in_main("  a: print " + sign)
            self.in_main("  " + sign + ": pass")
            self.in_main("  a: pass" + sign)

    def test_the_program_read_stands_alone(self):
        program = read_program(WHOLE)
        program.body()[1].clear()
        self.assertEqual(read_program(WHOLE), program)
        self.assertEqual(program_text(program), WHOLE)


if __name__ == "__main__":
    unittest.main()
