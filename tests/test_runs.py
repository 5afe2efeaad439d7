"""Runs, stops and what lives at them: [17] and [18]."""

import unittest

from tests.odd import odd_objects
from tests.oracle import Chance, carried_out
from truestops.errors import Fault, InvalidInputs, InvalidProgram, UnknownStop
from truestops.programs import (
    Program,
    all_stops,
    holders_at,
    in_sight,
    passed_stops,
    program_text,
    run_program,
)

ROUND, ON = ("choice", 1), ("choice", 0)


def number(n):
    return ("number", n)


def choice(n):
    return ("choice", n)


def chance_programs(seeds):
    """The parts and the programs of those seeds that make none too great."""
    for seed in seeds:
        chance = Chance(seed)
        parts = chance.program()
        try:
            program = Program(*parts)
        except Fault as fault:
            assert fault.value in [("", "places"), ("", "stops")], fault.value
            continue
        yield chance, parts, program


def nested():
    """Calls, picks and rounds within one another."""
    half = ("half", ["x"], ["y"], ([], [("again", "ha", ([], [("set", "hb", "y", {"y": 1, "x": 2})])), ("print", "hc", {"y": 1})]))
    arms = [
        (["t"], [("read", "ma", "t"), ("call", "mb", "half", [{"t": 1, "": 1}], ["r"])]),
        ([], [("set", "mc", "g", {"p": 1, "g": 1})]),
        ([], []),
    ]
    mid = ("mid", ["p"], ["r"], ([], [("pick", "mp", arms), ("set", "md", "r", {"r": 1, "": 1})]))
    body = (["b"], [("again", "w", (["c"], [("call", "k", "mid", [{"g": 1, "b": 1}], ["c"]), ("set", "e", "b", {"b": 1, "c": 1})])),
                    ("print", "o", {"b": 1, "g": 2, "": 3})])
    return Program(7, ["g"], [half, mid], body)


class Point17(unittest.TestCase):
    def refused(self, value, program, inputs):
        for function in [run_program, passed_stops]:
            with self.assertRaises(InvalidInputs) as caught:
                function(program, inputs)
            if inputs is value:
                self.assertIs(caught.exception.value, value)
            else:
                self.assertEqual(repr(caught.exception.value), repr(value))

    def test_calls_picks_and_rounds_within_one_another(self):
        program = nested()
        self.assertEqual(run_program(program, []), ([[]], ("choice", 2)))
        self.assertEqual(run_program(program, [ON]), ([[], [3]], ("end",)))
        self.assertEqual(run_program(program, [ROUND]), ([[], []], ("choice", 3)))
        self.assertEqual(run_program(program, [ROUND, choice(0)]), ([[], [], []], ("number",)))
        # t = 4, x = 5; two rounds make y 20, which is 6; r = 6 + 1, so c = 0 and b = 0; the print is 3.
        inputs = [ROUND, choice(0), number(4), ROUND, ROUND, ON, ON]
        self.assertEqual(run_program(program, inputs), ([[], [], [], [], [], [], [6], [3]], ("end",)))
        # Without rounds y = 0, r = 1, b = 1. Then g = 0 + 1, r = 1, b = 2; then the third arm, r = 1, b = 3.
        inputs = [ROUND, choice(0), number(4), ON, ROUND, choice(1), ROUND, choice(2), ON]
        self.assertEqual(run_program(program, inputs), ([[], [], [], [], [0], [], [], [], [], [1]], ("end",)))

    def test_nothing_at_all(self):
        empty = Program(5, [], [], ([], []))
        self.assertEqual(run_program(empty, []), ([[]], ("end",)))
        self.refused(0, empty, [number(0)])

    def test_prints_of_one_beat(self):
        steps = [("print", "a", {}), ("print", "b", {"": 4}), ("read", "c", "x"), ("print", "d", {"x": 3}), ("print", "e", {"x": 1, "": 1})]
        program = Program(5, ["x"], [], ([], steps))
        self.assertEqual(run_program(program, [number(4)]), ([[0, 4], [2, 0]], ("end",)))

    def test_own_variables_begin_with_nought_each_time(self):
        inner = (["t"], [("print", "a", {"t": 1}), ("set", "b", "t", {"": 1})])
        program = Program(5, [], [("p", [], ["r"], ([], [("print", "c", {"r": 1}), ("set", "d", "r", {"": 2})]))],
                          (["x"], [("again", "w", inner), ("call", "u", "p", [], ["x"]), ("call", "v", "p", [], ["x"])]))
        self.assertEqual(run_program(program, [ROUND, ROUND, ON])[0], [[], [0], [0], [0, 0]])

    def test_a_call_reckons_all_sums_first_and_gives_results_in_order(self):
        swap = ("swap", ["x", "y"], ["a", "b"], ([], [("set", "s", "a", {"y": 1}), ("set", "t", "b", {"x": 1}), ("set", "u", "m", {})]))
        steps = [
            ("read", "ra", "m"), ("read", "rb", "n"), ("call", "c", "swap", [{"m": 1}, {"n": 1}], ["m", "n"]),
            ("print", "p", {"m": 1, "n": 3}),
            ("call", "d", "swap", [{"m": 1}, {"m": 1, "n": 1}], ["n", "n"]), ("print", "o", {"n": 1}),
        ]
        program = Program(5, ["m", "n"], [swap], ([], steps))
        self.assertEqual(run_program(program, [number(1), number(3)])[0], [[], [], [1, 3]])

    def test_numbers_by_the_prime(self):
        steps = [("read", "a", "x"), ("set", "b", "x", {"x": 65536, "": 65536}), ("print", "c", {"x": 65536})]
        program = Program(65537, ["x"], [], ([], steps))
        self.assertEqual(run_program(program, [number(65536)])[0][1], [(1 + 65536) * 65536 % 65537])
        steps = [("read", "a", "x"), ("print", "c", {"x": 1, "": 1})]
        self.assertEqual(run_program(Program(2, ["x"], [], ([], steps)), [number(1)]), ([[], [0]], ("end",)))

    def test_the_first_letter_that_does_not_fit(self):
        program = Program(5, ["x"], [], ([], [("read", "a", "x"), ("pick", "b", [([], []), ([], []), ([], [])]), ("again", "c", ([], []))]))
        good = [number(4), choice(2), ROUND, ON]
        self.assertEqual(run_program(program, good)[1], ("end",))
        self.assertEqual(run_program(program, good[:3])[1], ("choice", 2))
        wrong = [None, 0, "number", ("number",), ("number", 0, 0), ["number", 0], ("number", -1), ("number", True),
                 ("number", "0"), ("Number", 0), (0, 0), ("choice", None), ("choice", False), ("choice", []), {}, [], ()]
        at = [wrong + [choice(0), number(5), number(10 ** 30)], wrong + [number(0), choice(3)], wrong + [number(1), choice(2)]]
        for position in range(3):
            for letter in at[position]:
                self.refused(position, program, good[:position] + [letter])
                self.refused(position, program, good[:position] + [letter, None])
        self.refused(4, program, good + [ON])
        self.refused(4, program, good + [number(0), None])

    def test_inputs_that_are_no_list(self):
        program = nested()
        for bad in [None, (), (ROUND,), ROUND, "", {}, {0: ROUND}, 0, True, "choice"]:
            self.refused(bad, program, bad)

    def test_many_letters(self):
        inputs = [ROUND, choice(1)] * 120
        self.assertEqual(run_program(nested(), inputs)[0], [[]] * 241)

    def test_no_program(self):
        calls = [(run_program, [[]]), (all_stops, []), (holders_at, [None]), (in_sight, [None]), (passed_stops, [None]), (program_text, [])]
        for bad in [thing for thing in odd_objects() if not isinstance(thing, Program)]:
            for function, more in calls:
                with self.assertRaises(InvalidProgram) as caught:
                    function(bad, *more)
                self.assertIs(caught.exception.value, bad)

    def test_as_the_statements_say(self):
        tried = 0
        for chance, parts, program in chance_programs(range(400)):
            for _ in range(3):
                inputs = chance.inputs(parts, 12)
                beats, asked, passed = carried_out(parts, inputs)
                self.assertEqual(run_program(program, inputs), (beats, asked))
                self.assertEqual(repr(passed_stops(program, inputs)), repr(passed))
                tried += 1
        self.assertGreater(tried, 300)

    def test_what_is_returned_or_handed_may_be_changed(self):
        program, inputs = nested(), [ROUND, choice(0), number(4), ROUND, ON]
        told = run_program(program, inputs)
        told[0][4].append(9)
        told[0].pop()
        self.assertEqual(inputs, [ROUND, choice(0), number(4), ROUND, ON])
        self.assertEqual(run_program(program, inputs), ([[], [], [], [], [], [3]], ("choice", 2)))
        inputs.clear()
        self.assertEqual(run_program(program, inputs), ([[]], ("choice", 2)))

    def test_by_names(self):
        self.assertEqual(run_program(inputs=[ON], program=nested()), ([[], [3]], ("end",)))
        self.assertEqual(passed_stops(inputs=[ON], program=nested()), passed_stops(nested(), [ON]))
        self.assertEqual(all_stops(program=nested()), all_stops(nested()))
        self.assertEqual(holders_at(stop=("w",), program=nested()), ["b", "g"])
        self.assertEqual(in_sight(stop=("w",), program=nested()), {"b": "b", "g": "g"})


class Point18(unittest.TestCase):
    def test_stops_in_the_order_of_the_text(self):
        self.assertEqual(all_stops(nested()), [
            ("w",), ("k",), ("k", "mp"), ("k", "ma"), ("k", "mb"), ("k", "mb", "ha"), ("k", "mb", "hb"), ("k", "mb", "hc"),
            ("k", "mc"), ("k", "md"), ("e",), ("o",),
        ])
        self.assertEqual(all_stops(Program(5, [], [], ([], []))), [])

    def test_stops_of_one_procedure_called_twice(self):
        program = Program(5, [], [("p", [], [], ([], [("pass", "z")])), ("q", [], [], ([], [("pass", "y")]))],
                          ([], [("call", "b", "p", [], []), ("call", "a", "p", [], [])]))
        self.assertEqual(all_stops(program), [("b",), ("b", "z"), ("a",), ("a", "z")])

    def test_holders(self):
        program = nested()
        self.assertEqual(holders_at(program, ("k",)), ["b", "c", "g"])
        self.assertEqual(holders_at(program, ("k", "mp")), ["b", "c", "g", "k.p", "k.r"])
        self.assertEqual(holders_at(program, ("k", "mb")), ["b", "c", "g", "k.p", "k.r", "k.t"])
        self.assertEqual(holders_at(program, ("k", "mb", "hc")), ["b", "c", "g", "k.mb.x", "k.mb.y", "k.p", "k.r", "k.t"])
        self.assertEqual(holders_at(program, ("o",)), ["b", "g"])

    def test_in_sight(self):
        program = nested()
        self.assertEqual(list(in_sight(program, ("k",)).items()), [("b", "b"), ("c", "c"), ("g", "g")])
        inner = [("g", "g"), ("p", "k.p"), ("r", "k.r")]
        self.assertEqual(list(in_sight(program, ("k", "mp")).items()), inner)
        self.assertEqual(list(in_sight(program, ("k", "mb")).items()), inner + [("t", "k.t")])
        self.assertEqual(list(in_sight(program, ("k", "mb", "hb")).items()), [("g", "g"), ("x", "k.mb.x"), ("y", "k.mb.y")])
        self.assertEqual(in_sight(Program(5, [], [], ([], [("pass", "a")])), ("a",)), {})

    def test_holders_ascending_as_strings(self):
        program = Program(5, ["z", "b"], [("p", ["y"], ["x"], (["a"], [("pass", "s")]))], (["c"], [("call", "bb", "p", [{}], ["z"])]))
        self.assertEqual(holders_at(program, ("bb", "s")), ["b", "bb.a", "bb.x", "bb.y", "c", "z"])
        self.assertEqual(list(in_sight(program, ("bb", "s"))), ["a", "b", "x", "y", "z"])

    def test_unknown_stops(self):
        program = nested()
        for bad in odd_objects() + [("mp",), ["w"], ("w", "k"), ("k", "ma", "mb"), "w", ("k", ("mp",)), ("W",)]:
            for function in [holders_at, in_sight]:
                with self.assertRaises(UnknownStop) as caught:
                    function(program, bad)
                self.assertIs(caught.exception.value, bad)

    def test_stops_of_what_is_never_called(self):
        program = Program(5, [], [("p", [], [], ([], [("pass", "z")]))], ([], [("pass", "a")]))
        self.assertEqual(all_stops(program), [("a",)])
        for bad in [("z",), ("p", "z")]:
            with self.assertRaises(UnknownStop):
                holders_at(program, bad)

    def test_passed_stops(self):
        program = nested()
        self.assertEqual(passed_stops(program, []), [(("w",), {"b": 0, "g": 0}, 0)])
        passed = passed_stops(program, [ROUND, choice(0), number(4), ROUND, ON])
        living = {"b": 0, "c": 0, "g": 0}
        self.assertEqual(passed, [
            (("k", "mb", "hc"), {**living, "k.mb.x": 5, "k.mb.y": 3, "k.p": 0, "k.r": 0, "k.t": 4}, 0),
            (("k", "md"), {**living, "k.p": 0, "k.r": 3}, 1),
            (("e",), {"b": 0, "c": 4, "g": 0}, 1),
            (("w",), {"b": 4, "g": 0}, 1),
        ])
        for _, state, _ in passed:
            self.assertEqual(list(state), sorted(state))

    def test_the_state_is_that_ahead_of_the_statement(self):
        steps = [("set", "a", "x", {"": 2}), ("read", "b", "x"), ("print", "c", {"x": 1}), ("print", "d", {"x": 1}), ("pass", "e")]
        program = Program(5, ["x"], [], ([], steps))
        self.assertEqual(passed_stops(program, []), [(("a",), {"x": 0}, 0), (("b",), {"x": 2}, 0)])
        told = [(("c",), {"x": 3}, 0), (("d",), {"x": 3}, 1), (("e",), {"x": 3}, 2)]
        self.assertEqual(passed_stops(program, [number(3)]), told)

    def test_what_is_returned_may_be_changed(self):
        program = nested()
        stops = all_stops(program)
        all_stops(program).pop()
        self.assertEqual(all_stops(program), stops)
        holders_at(program, ("k",)).append("z")
        self.assertEqual(holders_at(program, ("k",)), ["b", "c", "g"])
        in_sight(program, ("k",)).clear()
        self.assertEqual(in_sight(program, ("k",)), {"b": "b", "c": "c", "g": "g"})
        passed = passed_stops(program, [])
        passed[0][1]["g"] = 6
        passed.append(None)
        self.assertEqual(passed_stops(program, []), [(("w",), {"b": 0, "g": 0}, 0)])

    def test_what_is_returned_may_be_passed_again(self):
        program = nested()
        for stop in all_stops(program):
            self.assertLessEqual(set(in_sight(program, stop).values()), set(holders_at(program, stop)))


if __name__ == "__main__":
    unittest.main()
