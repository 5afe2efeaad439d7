"""The first fault of a program by its parts, and by its text at the right line: [16], and the last part of [19]."""

import unittest

from truestops.errors import Fault
from truestops.programs import Program, all_stops, read_program
from truestops.flows import points
from truestops.writing import program_lines

NOTHING = ([], [])


def body_of(*statements):
    return ([], list(statements))


def call(label, name, sums=(), variables=()):
    return ("call", label, name, list(sums), list(variables))


class Faults(unittest.TestCase):
    def fault(self, value, line, shared=(), procedures=(), body=NOTHING, prime=5):
        """The fault of parts, and that of their text, which has the line in the place of the label."""
        parts = (prime, list(shared), list(procedures), body)
        with self.assertRaises(Fault) as caught:
            Program(*parts)
        self.assertEqual(repr(caught.exception.value), repr(value))
        with self.assertRaises(Fault) as caught:
            read_program("\n".join(program_lines(*parts)))
        self.assertEqual(repr(caught.exception.value), repr((line, value[1])))

    def fine(self, shared=(), procedures=(), body=NOTHING):
        return Program(5, list(shared), list(procedures), body)


class Names(Faults):
    def test_shared(self):
        self.fault(("", "name"), 2, shared=["x", "y", "x"])

    def test_parameters_and_results(self):
        self.fault(("", "name"), 3, procedures=[("p", ["x", "x"], [], NOTHING)])
        self.fault(("", "name"), 3, procedures=[("p", [], ["y", "y"], NOTHING)])
        self.fault(("", "name"), 3, procedures=[("p", ["x"], ["x"], NOTHING)])
        self.fault(("", "name"), 3, shared=["x"], procedures=[("p", ["x"], [], NOTHING)])
        self.fault(("", "name"), 4, shared=["x"], procedures=[("o", [], [], NOTHING), ("p", [], ["x"], NOTHING)])

    def test_procedures_of_one_name(self):
        self.fault(("", "name"), 4, procedures=[("p", [], [], NOTHING), ("p", ["x"], [], NOTHING)])
        self.fault(("", "name"), 5, procedures=[("p", [], [], NOTHING), ("q", [], [], NOTHING), ("p", [], [], NOTHING)])

    def test_own_variables(self):
        self.fault(("", "name"), 3, shared=["x"], body=(["x"], []))
        self.fault(("", "name"), 3, body=(["x", "x"], []))
        self.fault(("", "name"), 3, shared=["x"], procedures=[("p", [], [], (["x"], []))])
        self.fault(("", "name"), 4, procedures=[("o", [], [], NOTHING), ("p", ["x"], [], (["x"], []))])
        self.fault(("", "name"), 3, procedures=[("p", [], ["x"], (["x"], []))])

    def test_own_variables_of_rounds_and_arms(self):
        inner = (["x"], [])
        self.fault(("w", "name"), 4, shared=["x"], body=body_of(("again", "w", inner)))
        self.fault(("w", "name"), 5, body=(["x"], [("again", "w", inner)]))
        self.fault(("k", "name"), 5, shared=["x"], body=body_of(("pass", "a"), ("pick", "k", [NOTHING, inner])))
        arms = [([], [("pass", "a"), ("pass", "b")]), (["y", "y"], [])]
        self.fault(("k", "name"), 4, body=body_of(("pick", "k", arms)))
        self.fault(("w", "name"), 8, body=(["x"], [("pick", "k", [NOTHING, body_of(("again", "w", inner))])]))

    def test_blocks_beside_one_another_share_names(self):
        self.fine(body=body_of(("pick", "k", [(["x"], []), (["x"], [])]), ("again", "w", (["x"], []))))
        self.fine(procedures=[("p", ["x"], ["y"], (["z"], [])), ("q", ["x"], ["y"], (["z"], []))], body=(["x", "y"], []))
        self.fine(shared=["p"], procedures=[("p", [], [], body_of(("pass", "p")))])


class Labels(Faults):
    def test_each_kind_of_statement(self):
        again = [
            ("read", "a", "x"), ("set", "a", "x", {}), ("print", "a", {}), ("pick", "a", [NOTHING, NOTHING]),
            ("again", "a", NOTHING), call("a", "p"), ("pass", "a"),
        ]
        for statement in again:
            shared, procedures = ["x"], [("p", [], [], NOTHING)]
            self.fault(("a", "label"), 6, shared, procedures, body_of(("pass", "a"), statement))

    def test_earlier_in_the_text(self):
        one = ("pass", "a")
        self.fault(("a", "label"), 6, procedures=[("p", [], [], body_of(one))], body=body_of(one))
        self.fault(("a", "label"), 6, procedures=[("p", [], [], body_of(one)), ("q", [], [], body_of(one))])
        self.fault(("a", "label"), 5, body=body_of(("again", "a", body_of(one))))
        self.fault(("a", "label"), 8, body=body_of(("pick", "k", [body_of(one), body_of(one)])))
        self.fault(("a", "label"), 6, body=body_of(("again", "w", body_of(one)), one))

    def test_a_label_like_another_name_is_none(self):
        self.fine(["a"], [("a", [], [], NOTHING)], body_of(("pass", "a")))


class Variables(Faults):
    def test_each_place_of_each_statement(self):
        procedures = [("p", ["u"], ["v"], NOTHING)]
        wrong = [
            ("read", "a", "y"), ("set", "a", "y", {}), ("set", "a", "x", {"y": 1}), ("set", "a", "x", {"": 1, "x": 2, "y": 1}),
            ("print", "a", {"y": 1}), call("a", "p", [{"y": 1}], ["x"]), call("a", "p", [{}], ["y"]),
            call("a", "p", [{}, {"x": 1, "y": 1}], ["x"]), call("a", "q", [], ["y"]),
        ]
        for statement in wrong:
            self.fault(("a", "variable"), 5, ["x"], procedures, body_of(statement))
        self.fine(["x", "y"], procedures, body_of(wrong[5]))

    def test_what_is_in_sight(self):
        uses = ("print", "z", {"s": 1, "x": 1, "y": 1, "o": 1, "i": 1})
        block = (["o"], [("again", "w", (["i"], [("pick", "k", [body_of(uses), NOTHING])]))])
        self.fine(["s"], [("p", ["x"], ["y"], block)])
        for shared, parameters, results, own, inner in [
            ([], ["x"], ["y"], ["o"], ["i"]), (["s"], [], ["y"], ["o"], ["i"]), (["s"], ["x"], [], ["o"], ["i"]),
            (["s"], ["x"], ["y"], [], ["i"]), (["s"], ["x"], ["y"], ["o"], []),
        ]:
            block = (own, [("again", "w", (inner, [("pick", "k", [body_of(uses), NOTHING])]))])
            line = 7 + (1 if own else 0) + (1 if inner else 0)
            self.fault(("z", "variable"), line, shared, [("p", parameters, results, block)])

    def test_what_is_out_of_sight(self):
        self.fault(("a", "variable"), 6, body=body_of(("again", "w", (["x"], [])), ("print", "a", {"x": 1})))
        arms = [(["x"], []), body_of(("print", "a", {"x": 1}))]
        self.fault(("a", "variable"), 8, body=body_of(("pick", "k", arms)))
        self.fault(("a", "variable"), 5, procedures=[("p", ["x"], [], NOTHING)], body=body_of(("print", "a", {"x": 1})))
        inner = ("p", [], [], body_of(("print", "a", {"x": 1})))
        self.fault(("a", "variable"), 4, procedures=[inner], body=(["x"], [call("c", "p")]))
        self.fault(("a", "variable"), 5, procedures=[("q", ["x"], [], NOTHING), inner])


class Calls(Faults):
    def test_no_such_procedure(self):
        self.fault(("c", "call"), 4, body=body_of(call("c", "p")))
        self.fault(("c", "call"), 5, procedures=[("q", [], [], NOTHING)], body=body_of(call("c", "p")))
        self.fault(("c", "call"), 4, procedures=[("q", [], [], body_of(call("c", "p")))])

    def test_as_many_parameters_and_results(self):
        procedures = [("p", ["u", "v"], ["w"], NOTHING)]
        self.fine(["x"], procedures, body_of(call("c", "p", [{}, {}], ["x"])))
        for sums, variables in [([], ["x"]), ([{}], ["x"]), ([{}] * 3, ["x"]), ([{}, {}], []), ([{}, {}], ["x", "x"])]:
            self.fault(("c", "call"), 5, ["x"], procedures, body_of(call("c", "p", sums, variables)))

    def test_a_procedure_may_stand_behind_its_call(self):
        self.fine(procedures=[("p", [], [], body_of(call("c", "q"))), ("q", [], [], NOTHING)], body=body_of(call("d", "p")))

    def test_results_may_go_to_one_variable(self):
        self.fine(["x"], [("p", [], ["u", "v"], NOTHING)], body_of(call("c", "p", [], ["x", "x"])))


class Rings(Faults):
    def test_one_two_and_three_procedures(self):
        self.fault(("c", "ring"), 4, procedures=[("p", [], [], body_of(call("c", "p")))])
        two = [("p", [], [], body_of(call("c", "q"))), ("q", [], [], body_of(call("d", "p")))]
        self.fault(("c", "ring"), 4, procedures=two)
        three = [("p", [], [], body_of(call("c", "q"))), ("q", [], [], body_of(call("d", "r")))]
        self.fault(("c", "ring"), 4, procedures=three + [("r", [], [], body_of(("again", "w", body_of(call("e", "p")))))])

    def test_a_call_that_leads_to_a_ring_alone(self):
        steps = [("p", [], [], body_of(call("c", "q"))), ("q", [], [], body_of(("pick", "k", [body_of(call("d", "q")), NOTHING])))]
        self.fault(("d", "ring"), 8, procedures=steps, body=body_of(call("e", "p")))

    def test_the_body_is_on_no_ring(self):
        self.fine(procedures=[("main", [], [], NOTHING)], body=body_of(call("c", "main"), call("d", "main")))
        ladder = [("p", [], [], body_of(call("c", "q"), call("d", "q"))), ("q", [], [], NOTHING)]
        self.fine(procedures=ladder, body=body_of(call("e", "p"), call("f", "q")))


class First(Faults):
    def test_label_ahead_of_variable_ahead_of_call(self):
        earlier = ("pass", "a")
        self.fault(("a", "label"), 5, body=body_of(earlier, ("print", "a", {"x": 1})))
        self.fault(("a", "label"), 5, body=body_of(earlier, call("a", "p", [{"x": 1}])))
        self.fault(("a", "variable"), 4, body=body_of(call("a", "p", [{"x": 1}])))
        self.fault(("a", "variable"), 4, procedures=[("p", [], [], body_of(call("a", "p", [], ["x"])))])
        self.fault(("a", "call"), 4, procedures=[("p", [], [], body_of(call("a", "p", [{}])))])
        self.fault(("a", "label"), 5, shared=["x"], body=body_of(earlier, ("again", "a", (["x"], []))))

    def test_own_variables_ahead_of_statements(self):
        self.fault(("w", "name"), 4, shared=["x"], body=body_of(("again", "w", (["x"], [("print", "a", {"y": 1})]))))
        self.fault(("", "name"), 3, shared=["x"], body=(["x"], [("print", "a", {"y": 1})]))

    def test_the_order_of_the_text(self):
        bad = [("p", ["x"], [], body_of(("print", "a", {"y": 1}))), ("q", [], [], body_of(call("b", "r")))]
        self.fault(("a", "variable"), 4, procedures=bad, body=(["z", "z"], []))
        self.fault(("b", "call"), 4, procedures=bad[1:], body=(["z", "z"], []))
        self.fault(("", "name"), 2, shared=["x", "x"], procedures=bad, body=(["z", "z"], []))
        self.fault(("a", "variable"), 4, procedures=bad[:1] * 2)
        self.fault(("", "name"), 4, procedures=[("q", [], [], NOTHING)] + bad[1:])
        arms = [body_of(("print", "a", {"y": 1})), (["x", "x"], [])]
        self.fault(("a", "variable"), 6, body=body_of(("pick", "k", arms), call("b", "r")))

    def test_size_behind_all_others(self):
        many = [("pass", "a" + letter) for letter in "abcdefghijklmnop"]
        self.fault(("z", "variable"), 20, body=body_of(*many, ("print", "z", {"x": 1})))


class Sizes(Faults):
    def many_passes(self, many):
        return [("pass", "a" + "abcdefghijklmnopqrstuvwxyz"[at]) for at in range(many)]

    def test_twelve_stops(self):
        self.assertEqual(len(all_stops(self.fine(body=body_of(*self.many_passes(12))))), 12)
        self.fault(("", "stops"), 0, body=body_of(*self.many_passes(13)))

    def test_stops_count_as_often_as_they_are_opened(self):
        procedures = [("p", [], [], body_of(*self.many_passes(5)))]
        self.fine(procedures=procedures, body=body_of(call("c", "p"), call("d", "p")))
        self.fault(("", "stops"), 0, procedures=procedures, body=body_of(call("c", "p"), call("d", "p"), ("pass", "z")))

    def big(self, more):
        """Eight calls of seven points each, the shared ones', the end's, and more."""
        procedures = [("p", ["u", "v"], ["w", "x"], NOTHING)]
        calls = [call("c" + letter, "p", [{}, {}], ["n", "n"]) for letter in "abcdefgh"]
        return (["n"], procedures, body_of(*calls, *more))

    def test_sixty_places(self):
        least = self.fine(*self.big([]))
        self.assertEqual(len(points(least)), 58)
        self.assertEqual(len(points(self.fine(*self.big(self.many_passes(2))))), 60)
        self.fault(("", "places"), 0, *self.big(self.many_passes(3)))

    def test_places_ahead_of_stops(self):
        prints = [("print", "b" + letter, {}) for letter in "abcdefghijklmnopqrstuvwxyz"]
        self.fault(("", "places"), 0, body=body_of(*self.many_passes(26), ("again", "w", body_of(*prints))))

    def test_what_is_never_called_has_no_size(self):
        program = self.fine(procedures=[("p", ["u"], ["v"], body_of(*self.many_passes(20)))], body=body_of(("pass", "z")))
        self.assertEqual(len(points(program)), 2)

    def test_calls_that_double_again_and_again(self):
        names = ["p" + letter for letter in "abcdefghijklmnopqrstuvwxyz"]
        procedures = [(names[-1], [], [], body_of(("pass", "z")))]
        for at in range(25):
            block = body_of(call("c" + names[at], names[at + 1]), call("d" + names[at], names[at + 1]))
            procedures.append((names[at], [], [], block))
        self.fault(("", "places"), 0, procedures=procedures, body=body_of(call("a", "pa")))

    def test_the_deepest_texts(self):
        line = "b" * 8
        lines = ["prime 5", "shared ()", "main"]
        labels = [a + b for a in "abcdefghijklmnopqrst" for b in "abcdefghij"][:190]
        lines += ["  " * (at + 1) + label + ": again" for at, label in enumerate(labels)]
        with self.assertRaises(Fault) as caught:
            read_program("\n".join(lines))
        self.assertEqual(caught.exception.value, (0, "places"))
        with self.assertRaises(Fault) as caught:
            read_program("\n".join(lines + ["  " * 191 + "aa: pass"]))
        self.assertEqual(caught.exception.value, (194, "label"))
        never = lines[:2] + ["procedure " + line + " () ()"] + lines[3:] + ["main"]
        self.assertEqual(len(read_program("\n".join(never)).procedures()), 1)


if __name__ == "__main__":
    unittest.main()
