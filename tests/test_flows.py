"""The points of programs, and runs by these: [20], [21] and [22]."""

import unittest

from tests.odd import odd_objects
from tests.oracle import by_points, carried_out
from tests.test_runs import ON, ROUND, chance_programs, choice, nested, number
from truestops.errors import InvalidCount, InvalidInputs, InvalidProgram
from truestops.flows import alive_at, points, run_flow, stop_places, way_of
from truestops.programs import Program, all_stops, holders_at, run_program

NOTHING = ([], [])


def main_of(*statements, shared=(), procedures=(), own=()):
    return Program(5, list(shared), list(procedures), (list(own), list(statements)))


class Point21(unittest.TestCase):
    def points_of(self, program, expected):
        self.assertEqual(repr(points(program)), repr(expected))

    def test_nothing(self):
        self.points_of(main_of(), [("end",)])
        self.points_of(main_of(shared=["y", "x"]), [("live", ["x", "y"], 1), ("end",)])
        self.points_of(main_of(own=["y", "x"]), [("live", ["x", "y"], 1), ("gone", ["x", "y"], 2), ("end",)])

    def test_plain_statements(self):
        steps = [("pass", "a"), ("read", "b", "x"), ("set", "c", "y", {"y": 2, "": 1, "x": 1}), ("print", "d", {"x": 3})]
        self.points_of(main_of(*steps, shared=["x"], own=["y"]), [
            ("live", ["x"], 1), ("live", ["y"], 2), ("pass", ("a",), 3), ("pass", ("b",), 4), ("read", "x", 5), ("pass", ("c",), 6),
            ("set", "y", {"": 1, "x": 1, "y": 2}, 7), ("pass", ("d",), 8), ("print", {"x": 3}, 9), ("gone", ["y"], 10), ("end",),
        ])

    def test_pick(self):
        arms = [([], [("pass", "b")]), NOTHING, (["t"], []), ([], [("print", "c", {}), ("pass", "d")])]
        self.points_of(main_of(("pick", "a", arms), ("pass", "e")), [
            ("pass", ("a",), 1), ("pick", [2, 8, 3, 5]), ("pass", ("b",), 8), ("live", ["t"], 4), ("gone", ["t"], 8),
            ("pass", ("c",), 6), ("print", {}, 7), ("pass", ("d",), 8), ("pass", ("e",), 9), ("end",),
        ])

    def test_pick_without_points_in_its_arms(self):
        self.points_of(main_of(("pick", "a", [NOTHING, NOTHING])), [("pass", ("a",), 1), ("pick", [2, 2]), ("end",)])

    def test_again(self):
        self.points_of(main_of(("again", "a", ([], [("read", "b", "x")])), shared=["x"]), [
            ("live", ["x"], 1), ("pass", ("a",), 2), ("pick", [5, 3]), ("pass", ("b",), 4), ("read", "x", 1), ("end",),
        ])
        self.points_of(main_of(("again", "a", (["t"], [("pass", "b")]))), [
            ("pass", ("a",), 1), ("pick", [5, 2]), ("live", ["t"], 3), ("pass", ("b",), 4), ("gone", ["t"], 0), ("end",),
        ])

    def test_again_without_points_in_its_round(self):
        self.points_of(main_of(("pass", "z"), ("again", "a", NOTHING)), [
            ("pass", ("z",), 1), ("pass", ("a",), 2), ("pick", [3, 1]), ("end",),
        ])

    def test_picks_and_rounds_as_the_last_of_one_another(self):
        inner = ([], [("pick", "b", [NOTHING, ([], [("again", "c", NOTHING)])])])
        self.points_of(main_of(("again", "a", inner)), [
            ("pass", ("a",), 1), ("pick", [6, 2]), ("pass", ("b",), 3), ("pick", [0, 4]), ("pass", ("c",), 5), ("pick", [0, 4]), ("end",),
        ])

    def test_call(self):
        steps = (["t"], [("set", "s", "v", {"u": 1, "n": 1, "t": 2}), ("set", "q", "m", {"w": 1})])
        procedures = [("p", ["u", "k"], ["w", "v"], steps)]
        sums, variables = [{"n": 1, "": 2}, {"m": 3}], ["m", "n"]
        alive = ["c.k", "c.u", "c.v", "c.w"]
        self.points_of(main_of(("call", "c", "p", sums, variables), ("pass", "e"), shared=["n", "m"], procedures=procedures), [
            ("live", ["m", "n"], 1), ("pass", ("c",), 2), ("live", alive, 3), ("set", "c.u", {"": 2, "n": 1}, 4), ("set", "c.k", {"m": 3}, 5),
            ("live", ["c.t"], 6), ("pass", ("c", "s"), 7), ("set", "c.v", {"c.t": 2, "c.u": 1, "n": 1}, 8), ("pass", ("c", "q"), 9),
            ("set", "m", {"c.w": 1}, 10), ("gone", ["c.t"], 11), ("set", "m", {"c.w": 1}, 12), ("set", "n", {"c.v": 1}, 13),
            ("gone", alive, 14), ("pass", ("e",), 15), ("end",),
        ])

    def test_calls_without_holders_or_without_points(self):
        procedures = [("o", [], [], NOTHING), ("p", [], [], ([], [("pass", "s")])), ("q", ["x"], [], NOTHING), ("r", [], ["y"], NOTHING)]
        self.points_of(main_of(("again", "a", ([], [("call", "b", "o", [], [])])), procedures=procedures), [
            ("pass", ("a",), 1), ("pick", [3, 2]), ("pass", ("b",), 0), ("end",),
        ])
        self.points_of(main_of(("again", "a", ([], [("call", "b", "p", [], [])])), procedures=procedures), [
            ("pass", ("a",), 1), ("pick", [4, 2]), ("pass", ("b",), 3), ("pass", ("b", "s"), 0), ("end",),
        ])
        self.points_of(main_of(("again", "a", ([], [("call", "b", "q", [{}], [])])), procedures=procedures), [
            ("pass", ("a",), 1), ("pick", [6, 2]), ("pass", ("b",), 3), ("live", ["b.x"], 4), ("set", "b.x", {}, 5), ("gone", ["b.x"], 0), ("end",),
        ])
        self.points_of(main_of(("call", "b", "r", [], ["g"]), shared=["g"], procedures=procedures), [
            ("live", ["g"], 1), ("pass", ("b",), 2), ("live", ["b.y"], 3), ("set", "g", {"b.y": 1}, 4), ("gone", ["b.y"], 5), ("end",),
        ])

    def test_calls_within_calls(self):
        procedures = [("p", ["x"], [], ([], [("call", "d", "q", [{"x": 1}], [])])), ("q", ["x"], [], ([], [("print", "o", {"x": 1})]))]
        self.points_of(main_of(("call", "c", "p", [{"": 1}], []), procedures=procedures), [
            ("pass", ("c",), 1), ("live", ["c.x"], 2), ("set", "c.x", {"": 1}, 3), ("pass", ("c", "d"), 4), ("live", ["c.d.x"], 5),
            ("set", "c.d.x", {"c.x": 1}, 6), ("pass", ("c", "d", "o"), 7), ("print", {"c.d.x": 1}, 8), ("gone", ["c.d.x"], 9), ("gone", ["c.x"], 10), ("end",),
        ])

    def test_chance_programs_run_by_their_points(self):
        tried = 0
        for chance, parts, program in chance_programs(range(400)):
            for _ in range(2):
                inputs = chance.inputs(parts, 10)
                beats, asked, ways = by_points(parts[0], points(program), inputs)
                self.assertEqual((beats, asked), carried_out(parts, inputs)[:2])
                self.assertEqual((beats, asked), run_flow(program, inputs))
                self.assertEqual(way_of(program, inputs), ways[-1])
                self.assertEqual([len(set(way)) for way in ways], [len(way) for way in ways])
                tried += 1
        self.assertGreater(tried, 200)

    def test_chance_programs_hold_together(self):
        for _, _, program in chance_programs(range(400)):
            flow = points(program)
            self.assertEqual([place for place, point in enumerate(flow) if point[0] == "pass"], list(stop_places(program).values()))
            self.assertEqual([point[1] for point in flow if point[0] == "pass"], all_stops(program))
            self.assertEqual([place for place, point in enumerate(flow) if point[0] == "end"], [len(flow) - 1])
            alive = {0: []}
            for place, point in self.in_reach(flow, alive):
                self.assertEqual(alive_at(program, place), alive[place], (place, point))
            for stop, place in stop_places(program).items():
                self.assertEqual(holders_at(program, stop), alive_at(program, place))

    def in_reach(self, flow, alive):
        """Each place with its point; what lives there is written into `alive`, and is the same on all ways."""
        waiting = [0]
        while waiting:
            place = waiting.pop()
            word, *parts = flow[place]
            yield place, flow[place]
            living = alive[place]
            if word == "live":
                living = sorted(living + parts[0])
            elif word == "gone":
                living = [holder for holder in living if holder not in parts[0]]
            for behind in parts[0] if word == "pick" else parts[-1:]:
                if behind not in alive:
                    alive[behind] = living
                    waiting.append(behind)
                self.assertEqual(alive[behind], living)
        self.assertEqual(sorted(alive), list(range(len(flow))))


class Point22(unittest.TestCase):
    def test_stop_places_in_the_order_of_the_text(self):
        found = stop_places(nested())
        self.assertEqual(list(found), all_stops(nested()))
        self.assertEqual(list(found.values()), sorted(found.values()))
        self.assertEqual(stop_places(main_of()), {})

    def test_alive(self):
        procedures = [("p", ["u"], ["v"], (["t"], [("pass", "s")]))]
        program = main_of(("call", "c", "p", [{}], ["n"]), shared=["n"], own=["o"], procedures=procedures)
        words = [point[0] for point in points(program)]
        self.assertEqual(words, ["live", "live", "pass", "live", "set", "live", "pass", "gone", "set", "gone", "gone", "end"])
        within = ["c.u", "c.v", "n", "o"]
        own = ["c.t", "c.u", "c.v", "n", "o"]
        expected = [[], ["n"], ["n", "o"], ["n", "o"], within, within, own, own, within, within, ["n", "o"], ["n"]]
        self.assertEqual([alive_at(program, place) for place in range(len(words))], expected)

    def test_wrong_places(self):
        program = nested()
        many = len(points(program))
        for bad in [thing for thing in odd_objects() if type(thing) is not int] + [-1, many, many + 1, 10 ** 30, ("k",)]:
            with self.assertRaises(InvalidCount) as caught:
                alive_at(program, bad)
            self.assertIs(caught.exception.value, bad)
        self.assertEqual(alive_at(program, many - 1), ["g"])

    def test_ways(self):
        program = main_of(("read", "a", "x"), ("again", "b", ([], [("print", "c", {"x": 1})])), shared=["x"])
        self.assertEqual(way_of(program, []), [0, 1, 2])
        self.assertEqual(way_of(program, [number(3)]), [3, 4])
        self.assertEqual(way_of(program, [number(3), ROUND]), [5, 6, 3, 4])
        self.assertEqual(way_of(program, [number(3), ROUND, ON]), [7])
        self.assertEqual(way_of(main_of(), []), [0])

    def test_a_round_without_points(self):
        program = main_of(("again", "a", NOTHING))
        self.assertEqual(way_of(program, [ROUND, ROUND]), [0, 1])
        self.assertEqual(way_of(program, [ROUND, ON]), [2])
        program = main_of(("pick", "a", [NOTHING, ([], [("pass", "b")]), NOTHING]), ("pass", "c"))
        self.assertEqual([way_of(program, [choice(n)]) for n in range(3)], [[3, 4], [2, 3, 4], [3, 4]])

    def test_letters_that_do_not_fit(self):
        program = main_of(("read", "a", "x"), ("pick", "b", [NOTHING, NOTHING, NOTHING]), shared=["x"])
        good = [number(4), choice(2)]
        for function in [way_of, run_flow]:
            for position, wrong in [(0, choice(0)), (0, number(5)), (0, None), (1, choice(3)), (1, number(0)), (2, number(0))]:
                with self.assertRaises(InvalidInputs) as caught:
                    function(program, good[:position] + [wrong, None])
                self.assertEqual(caught.exception.value, position)
            for bad in [None, (), (number(1),), {}, "", 0, True]:
                with self.assertRaises(InvalidInputs) as caught:
                    function(program, bad)
                self.assertIs(caught.exception.value, bad)

    def test_run_flow_answers_as_run_program(self):
        for chance, parts, program in chance_programs(range(200)):
            inputs = chance.inputs(parts, 8)
            for many in range(len(inputs) + 1):
                self.assertEqual(run_flow(program, inputs[:many]), run_program(program, inputs[:many]))

    def test_no_program(self):
        calls = [(points, []), (stop_places, []), (alive_at, [None]), (way_of, [None]), (run_flow, [None])]
        for bad in [thing for thing in odd_objects() if not isinstance(thing, Program)]:
            for function, more in calls:
                with self.assertRaises(InvalidProgram) as caught:
                    function(bad, *more)
                self.assertIs(caught.exception.value, bad)

    def test_by_names(self):
        self.assertEqual(points(program=nested()), points(nested()))
        self.assertEqual(stop_places(program=nested()), stop_places(nested()))
        self.assertEqual(alive_at(place=2, program=nested()), alive_at(nested(), 2))
        self.assertEqual(way_of(inputs=[ON], program=nested()), way_of(nested(), [ON]))
        self.assertEqual(run_flow(inputs=[ON], program=nested()), ([[], [3]], ("end",)))

    def test_what_is_returned_or_handed_may_be_changed(self):
        program, inputs = nested(), [ROUND]
        told = repr([points(program), stop_places(program), alive_at(program, 5), way_of(program, inputs), run_flow(program, inputs)])
        for point in points(program):
            for part in point:
                if isinstance(part, list):
                    part.append(None)
                elif isinstance(part, dict):
                    part["x"] = None
        points(program).clear()
        stop_places(program).clear()
        alive_at(program, 5).append(None)
        way_of(program, inputs).append(None)
        run_flow(program, inputs)[0][0].append(None)
        self.assertEqual(inputs, [ROUND])
        again = repr([points(program), stop_places(program), alive_at(program, 5), way_of(program, inputs), run_flow(program, inputs)])
        self.assertEqual(again, told)


if __name__ == "__main__":
    unittest.main()
