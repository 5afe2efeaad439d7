"""The forms of programs, what they are made of, and when they are equal: [15]."""

import itertools
import unittest

from tests.odd import odd_objects
from truestops.errors import InvalidPrime, InvalidProgram
from truestops.programs import Program

BODY = ([], [("pass", "a")])


def with_statement(statement):
    return ([], [statement])


class Point15(unittest.TestCase):
    def refused(self, kind, value, *args, **named):
        with self.assertRaises(kind) as caught:
            Program(*args, **named)
        self.assertIs(type(caught.exception), kind)
        self.assertIs(caught.exception.value, value)

    def whole(self):
        """The parts of a program with statements of all kinds."""
        inner = (["t"], [("read", "ia", "t"), ("set", "ib", "y", {"t": 2, "x": 1, "": 3})])
        arms = [([], [("print", "pa", {"n": 1})]), (["o"], []), ([], []), ([], [("pass", "pb")])]
        steps = [
            ("pick", "p", arms),
            ("again", "w", ([], [("print", "wa", {})])),
            ("call", "c", "twice", [{"": 1}], ["n"]),
        ]
        return [5, ["n", "m"], [("twice", ["x"], ["y"], inner)], (["k"], steps)]

    def test_it_returns_what_it_was_made_of(self):
        program = Program(*self.whole())
        told = [program.prime(), program.shared(), program.procedures(), program.body()]
        self.assertEqual(told, self.whole())
        self.assertIs(type(told[3]), tuple)
        self.assertIs(type(told[2][0]), tuple)

    def test_the_least_program(self):
        program = Program(2, [], [], ([], []))
        self.assertEqual([program.prime(), program.shared(), program.procedures(), program.body()], [2, [], [], ([], [])])

    def test_primes(self):
        for prime in [2, 3, 5, 65537]:
            self.assertEqual(Program(prime, [], [], BODY).prime(), prime)
        for bad in [0, 1, 4, 65539, -5, True, False, None, "5", [5], (5,), 10 ** 30]:
            self.refused(InvalidPrime, bad, bad, None, None, None)

    def test_sums_come_back_in_order(self):
        steps = [
            ("set", "a", "x", {"y": 1, "x": 2, "": 3}),
            ("print", "b", {"x": 1, "": 2}),
            ("call", "c", "p", [{"y": 1, "": 1}], []),
            ("again", "d", ([], [("print", "e", {"y": 1, "x": 2})])),
            ("pick", "f", [([], [("print", "g", {"y": 1, "": 2})]), ([], [])]),
        ]
        program = Program(5, ["x", "y"], [("p", ["q"], [], ([], [("print", "h", {"q": 1, "": 1})]))], ([], steps))
        found = program.body()[1]
        self.assertEqual(list(found[0][3]), ["", "x", "y"])
        self.assertEqual(list(found[1][2]), ["", "x"])
        self.assertEqual(list(found[2][3][0]), ["", "y"])
        self.assertEqual(list(found[3][2][1][0][2]), ["x", "y"])
        self.assertEqual(list(found[4][2][0][1][0][2]), ["", "y"])
        self.assertEqual(list(program.procedures()[0][3][1][0][2]), ["", "q"])

    def test_wrong_shared_variables(self):
        for bad in [None, (), ("x",), "x", [None], [""], ["X"], ["x1"], ["abcdefghi"], ["x", 1], [["x"]], {}, ["a b"], True]:
            self.refused(InvalidProgram, bad, 5, bad, None, None)

    def test_longest_and_shortest_names(self):
        names = ["a", "z", "abcdefgh", "zzzzzzzz"]
        self.assertEqual(Program(5, names, [], BODY).shared(), names)

    def test_wrong_procedures(self):
        good = ("p", [], [], ([], []))
        shapes = [
            None, (), (good,), good, "p", {}, [None], [list(good)], [good, None], [good[:3]], [good + (1,)],
            [("P", [], [], ([], []))], [("", [], [], ([], []))], [(1, [], [], ([], []))],
            [("p", (), [], ([], []))], [("p", [], (), ([], []))], [("p", ["1"], [], ([], []))],
            [("p", [], [None], ([], []))], [("p", [], [], [[], []])], [("p", [], [], None)],
            [("p", [], [], ([], [("pass",)]))], [("p", ["x"], [], ([], [("print", "a", {"x": 5})]))],
        ]
        for bad in shapes:
            self.refused(InvalidProgram, bad, 5, [], bad, None)

    def test_wrong_bodies(self):
        bads = [None, [], ([],), ([], [], []), [[], []], ((), []), ([], ()), (["X"], []), ([None], []), ([], [None])]
        for bad in bads + [([], {}), (None, []), "ab", {}, ([], [[]]), ([], [()]), True, 5]:
            self.refused(InvalidProgram, bad, 5, [], [], bad)
        for bad in odd_objects():
            self.refused(InvalidProgram, bad, 5, [], [], bad) if bad != ([], []) else Program(5, [], [], bad)

    def test_wrong_statements(self):
        good_arm = ([], [])
        wrong = [
            ("pass",), ("pass", "a", "b"), ["pass", "a"], ("pass", "A"), ("pass", ""), ("pass", None), ("Pass", "a"),
            ("stop", "a"), (None, "a"), (["pass"], "a"), ({}, "a"), "pass", ("pass", "abcdefghi"), (), (1, 2),
            ("read", "a"), ("read", "a", "x", "x"), ("read", "a", ""), ("read", "a", "X"), ("read", "a", ["x"]),
            ("set", "a", "x"), ("set", "a", {"x": 1}), ("set", "a", "x", {}, {}), ("set", "a", 1, {}),
            ("print", "a"), ("print", "a", {}, {}), ("pick", "a"), ("pick", "a", []), ("pick", "a", [good_arm]),
            ("pick", "a", [good_arm] * 5), ("pick", "a", (good_arm, good_arm)), ("pick", "a", [good_arm, []]),
            ("pick", "a", good_arm, good_arm), ("again", "a"), ("again", "a", []), ("again", "a", [[], []]),
            ("again", "a", good_arm, good_arm), ("again", "a", [good_arm]), ("call", "a", "p", []),
            ("call", "a", "p", [], [], []), ("call", "a", "P", [], []), ("call", "a", "p", (), []),
            ("call", "a", "p", [], ()), ("call", "a", "p", [None], []), ("call", "a", "p", [], [None]),
            ("call", "a", "p", {}, []), ("call", "a", "p", [], [""]), ("call", "a", None, [], []),
            ("call", "a", "p", [{"x": 0}], []), ("again", "a", ([], [("pass",)])),
        ]
        for statement in wrong:
            bad = with_statement(statement)
            self.refused(InvalidProgram, bad, 5, ["x"], [], bad)
            inside = ([], [("again", "o", bad)])
            self.refused(InvalidProgram, inside, 5, ["x"], [], inside)
            arm = ([], [("pick", "o", [([], []), bad])])
            self.refused(InvalidProgram, arm, 5, ["x"], [], arm)

    def test_wrong_sums(self):
        sums = [
            None, [], (), "x", [("x", 1)], {"x": 0}, {"x": 5}, {"x": -1}, {"x": True}, {"x": "1"}, {"x": None},
            {"": 0}, {"": 5}, {"X": 1}, {"x.y": 1}, {1: 1}, {None: 1}, {("x",): 1}, {"abcdefghi": 1}, {"x": [1]}, {"x": 10 ** 30},
        ]
        for wanted in sums:
            for statement in [("set", "a", "x", wanted), ("print", "a", wanted), ("call", "a", "p", [wanted], [])]:
                bad = with_statement(statement)
                self.refused(InvalidProgram, bad, 5, ["x"], [], bad)

    def test_numbers_of_arms(self):
        for many in [2, 3, 4]:
            body = with_statement(("pick", "a", [([], [])] * many))
            self.assertEqual(Program(5, [], [], body).body(), body)

    def test_errors_argument_by_argument(self):
        bad = [None], [None], [None]
        self.refused(InvalidPrime, 4, 4, *bad)
        self.refused(InvalidProgram, bad[0], 5, *bad)
        self.refused(InvalidProgram, bad[1], 5, [], *bad[1:])
        self.refused(InvalidProgram, bad[2], 5, [], [], bad[2])
        # A form that is wrong comes ahead of a fault in an earlier argument.
        self.refused(InvalidProgram, bad[2], 5, ["x", "x"], [], bad[2])

    def test_by_names_in_any_order(self):
        named = dict(zip(["prime", "shared", "procedures", "body"], self.whole()))
        for order in itertools.permutations(named):
            self.assertEqual(Program(**{name: named[name] for name in order}), Program(*self.whole()))

    def test_equality(self):
        parts = self.whole()
        program = Program(*parts)
        self.assertTrue(program == Program(*self.whole()))
        self.assertFalse(program != Program(*self.whole()))
        others = [
            Program(7, *parts[1:]),
            Program(5, ["m", "n"], *parts[2:]),
            Program(5, parts[1], parts[2] + [("more", [], [], ([], []))], parts[3]),
            Program(*parts[:3], (["k"], parts[3][1][:2])),
            Program(*parts[:3], (["l"], parts[3][1])),
        ]
        for other in others + odd_objects() + [tuple(parts), parts]:
            self.assertFalse(program == other)
            self.assertTrue(program != other)

    def test_order_in_a_sum_means_nothing(self):
        one = Program(5, ["x"], [], with_statement(("print", "a", {"x": 1, "": 2})))
        other = Program(5, ["x"], [], with_statement(("print", "a", {"": 2, "x": 1})))
        self.assertEqual(one, other)
        self.assertEqual(repr(one.body()), repr(other.body()))

    def spoil(self, thing):
        for inner in thing if isinstance(thing, (list, tuple)) else []:
            self.spoil(inner)
        if isinstance(thing, list):
            thing[:] = ["gone", "gone"]
        elif isinstance(thing, dict):
            thing["gone"] = 1

    def test_what_it_was_made_of_may_be_changed(self):
        parts = self.whole()
        program = Program(*parts)
        self.assertEqual(parts, self.whole())
        self.spoil(parts)
        self.assertEqual(program, Program(*self.whole()))

    def test_what_it_returns_may_be_changed(self):
        program = Program(*self.whole())
        for method in [program.shared, program.procedures, program.body]:
            self.spoil(method())
        self.assertEqual(program, Program(*self.whole()))
        self.assertEqual(program.body(), self.whole()[3])


if __name__ == "__main__":
    unittest.main()
