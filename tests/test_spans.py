"""Spans: [30], [31], [32] and [33]."""

import itertools
import random

from tests.brute import chance_engines, is_mixture_of, kept_of
from tests.checks import Checks, bent_ones
from tests.odd import odd_objects
from truestops.errors import InvalidEngine, InvalidInputs, InvalidSum, UnknownHolder, UnknownMark, UnknownStop
from truestops.numbers import rank, reduced
from truestops.programs import Program, all_stops, holders_at
from truestops.rows import Rows, marks_of, paths_of
from truestops.spans import always, always_zero, is_always_zero, is_mixture, kept_at, state_at

NOUGHT, ONE, ROUND, ON = ("number", 0), ("number", 1), ("choice", 1), ("choice", 0)
STEPS = [("read", "a", "x"), ("again", "b", ([], [("set", "c", "y", {"x": 1, "y": 1})])), ("print", "d", {"y": 1})]


def summing(prime=5):
    return Program(prime, ["x", "y"], [], ([], STEPS))


def summing_rows(prime=5):
    main = [("read", 0), ("pick", [4, 2]), ("add", 1, 0), ("go", 1), ("mark", "m", [("d",)]), ("print", 1), ("end",)]
    return Rows(prime, 2, {"main": (0, main + [("mark", "no", [("d",)]), ("end",)])})


def wheres(engine):
    """All stops of a program or marks of rows, with the holders that live there."""
    if isinstance(engine, Program):
        return [(stop, holders_at(engine, stop)) for stop in all_stops(engine)]
    return [(mark, paths_of(engine)[mark[1]]) for mark, _ in marks_of(engine)]


class Against(Checks):
    """Engines by chance, gone through by brute force."""

    def each(self, seeds, most):
        """Each engine with each place, its holders, and all (inputs, state) of few letters that pass it, in order."""
        for prime in [2, 3]:
            for one in chance_engines(seeds, prime):
                known = [(inputs, one.told(inputs)) for inputs in one.inputs(most if prime == 2 else most - 1)]
                for where, holders in wheres(one.engine):
                    passed = [(inputs, told.at(where)[0]) for inputs, told in known if told.at(where)]
                    yield one, where, holders, passed, known


class Point30(Against):
    def test_states_one_by_one(self):
        tried = 0
        for one, where, _, passed, known in self.each(range(60), 4):
            states = {repr(inputs): state for inputs, state in passed}
            for inputs, _ in known[:60]:
                self.assertEqual(repr(state_at(one.engine, where, inputs)), repr(states.get(repr(inputs))))
                tried += 1
        self.assertGreater(tried, 1000)

    def test_many_letters(self):
        inputs = [("number", 3)] + [ROUND] * 239
        self.assertEqual(state_at(summing(), ("c",), inputs), {"x": 3, "y": 3 * 238 % 5})
        self.assertIsNone(state_at(summing_rows(), ("m", ()), inputs))
        self.assertEqual(state_at(summing_rows(65537), ("m", ()), inputs[:-1] + [ON]), {"#0": 3, "#1": 3 * 238})

    def test_wrong_arguments(self):
        for function, more in [(state_at, [[]]), (kept_at, []), (is_mixture, [None]), (always, [{}]), (always_zero, []), (is_always_zero, [{}])]:
            self.refused_all(InvalidEngine, odd_objects()[:-3] + [("prime", 5), Program, Rows], function, None, ("c",), *more, at=0)
            bad = odd_objects() + [("e",), ("b", "c"), ["a"], "a", ("m", ()), ("A",)]
            self.refused_all(UnknownStop, bad, function, summing(), None, *more, at=1)
            bad = odd_objects() + [("m",), ("m", []), ["m", ()], ("m", ("c",)), ("d",), ("k", ()), ("m", (), ())]
            self.refused_all(UnknownMark, bad, function, summing_rows(), None, *more, at=1)

    def test_inputs_that_do_not_fit(self):
        self.refused_all(InvalidInputs, [None, (), (NOUGHT,), NOUGHT, {}, "", 0, True], state_at, summing(), ("a",), None, at=2)
        for engine, where in [(summing(), ("d",)), (summing_rows(), ("m", ()))]:
            good = [NOUGHT, ROUND, ON]
            for position, bad in [(0, ON), (0, ("number", 5)), (0, ("number", True)), (1, ("choice", 2)), (1, NOUGHT), (2, None), (3, ON), (3, None)]:
                self.refused(InvalidInputs, position, state_at, engine, where, good[:position] + [bad, None])


class Point31(Against):
    def test_kept_ones_against_all_inputs_of_few_letters(self):
        tried = 0
        for one, where, holders, passed, known in self.each(range(120), 5):
            most = max(len(inputs) for inputs, _ in known)
            told = kept_of(one.prime, [(inputs, list(state.values())) for inputs, state in passed])
            found = kept_at(one.engine, where)
            short = [(inputs, list(state.values())) for inputs, state in found if len(inputs) <= most]
            self.assertEqual(short, told)
            for inputs, state in found:
                self.assertEqual(list(state), holders)
                self.assertEqual(state_at(one.engine, where, inputs), state)
                numbers = [n for word, n in inputs if word == "number"]
                self.assertIn(sorted(numbers), [[0] * len(numbers), [0] * (len(numbers) - 1) + [1]])
            self.assertLessEqual(len(found), len(holders) + 1)
            tried += len(told)
        self.assertGreater(tried, 300)

    def test_every_state_is_a_mixture(self):
        for one, where, _, passed, _ in self.each(range(40), 5):
            for _, state in passed[:20]:
                self.assertIs(is_mixture(one.engine, where, state), True)

    def test_never_passed(self):
        rows = summing_rows()
        self.assertEqual(kept_at(rows, ("no", ())), [])
        self.assertIs(is_mixture(rows, ("no", ()), {"#0": 0, "#1": 0}), False)

    def test_mixtures_and_what_is_none(self):
        for one, where, holders, passed, _ in self.each(range(30), 5):
            kept = [list(state.values()) for _, state in kept_at(one.engine, where)]
            for numbers in itertools.islice(itertools.product(range(one.prime), repeat=len(holders)), 40):
                state = dict(zip(reversed(holders), reversed(numbers)))
                self.assertIs(is_mixture(one.engine, where, state), is_mixture_of(one.prime, list(numbers), kept))
        good = {"y": 0, "x": 0}
        self.assertIs(is_mixture(summing(), ("a",), good), True)
        for bent in bent_ones(good) + odd_objects() + [{"x": 0, "y": 0, "": 0}, {"x": 0, "z": 0}, {"x": 0, "y": 5}, [("x", 0), ("y", 0)]]:
            self.assertIs(is_mixture(summing(), ("a",), bent), False, bent)
        self.assertIs(is_mixture(summing(), ("a",), {"x": 0, "y": False}), False)
        self.assertIs(is_mixture(summing(), ("b",), {"x": 4, "y": 3}), True)
        self.assertIs(is_mixture(Program(5, [], [], ([], [("pass", "a")])), ("a",), {}), True)

    def test_the_greatest_prime(self):
        for prime in [2, 3, 5, 65537]:
            self.assertEqual([inputs for inputs, _ in kept_at(summing(prime), ("b",))], [[NOUGHT], [ONE], [ONE, ROUND]])
            self.assertIs(is_mixture(summing_rows(prime), ("m", ()), {"#0": prime - 1, "#1": prime - 1}), True)

    def test_great_rows(self):
        """Eight cells behind nine askings: each number that is read is kept, in another cell each time."""
        main = []
        for k in range(8):
            main += [("read", 0), ("keep", k, 0)]
        main += [("mark", "m", [("s",)]), ("pick", [16, 18, 20]), ("read", 1), ("go", 0), ("end",)]
        rows = Rows(65537, 4, {"main": (8, main)})
        kept = kept_at(rows, ("m", ()))
        self.assertEqual(len(kept), 10)
        self.assertEqual(kept[-1][0][:9], [NOUGHT] * 8 + [("choice", 1)])
        self.assertEqual(always_zero(rows, ("m", ())), [{"#0": 1, "@0.7": 65536}, {"#2": 1}, {"#3": 1}])


class Point32(Against):
    def test_against_all_inputs_of_few_letters(self):
        words = {"never": 0, "always": 0, "breaks": 0}
        for one, where, holders, passed, _ in self.each(range(60), 5):
            chance = random.Random(7)
            for _ in range(4):
                names = chance.sample(holders + [""], chance.randint(0, min(3, len(holders) + 1)))
                wanted = {name: chance.randrange(1, one.prime) for name in names}
                worth = lambda state: sum(n * (state[k] if k else 1) for k, n in wanted.items()) % one.prime
                kept = kept_at(one.engine, where)
                found = always(one.engine, where, wanted)
                words[found[0]] += 1
                others = [inputs for inputs, state in kept if worth(state) != worth(kept[0][1])]
                if not kept:
                    self.assertEqual((found, passed), (("never",), []))
                elif others:
                    self.assertEqual(found, ("breaks", kept[0][0], others[0]))
                else:
                    self.assertEqual([found] * len(passed), [("always", worth(state)) for _, state in passed])
                self.assertIs(is_always_zero(one.engine, where, wanted), not any(worth(state) for _, state in kept))
        self.assertGreater(min(words.values()), 20)

    def test_told_ones(self):
        rows = summing_rows()
        self.assertEqual(always(rows, ("no", ()), {"#0": 1}), ("never",))
        self.assertEqual(always(rows, ("m", ()), {}), ("always", 0))
        self.assertEqual(always(rows, ("m", ()), {"": 3}), ("always", 3))
        self.assertEqual(always(rows, ("m", ()), {"#1": 2, "": 1}), ("breaks", [NOUGHT, ON], [ONE, ROUND, ON]))
        self.assertIs(is_always_zero(rows, ("no", ()), {"": 1}), True)
        self.assertIs(is_always_zero(rows, ("m", ()), {}), True)
        self.assertIs(is_always_zero(rows, ("m", ()), {"": 1}), False)

    def test_wrong_sums(self):
        bad = [thing for thing in odd_objects() if type(thing) is not dict or set(map(type, thing)) != {str}]
        bad = [thing for thing in bad if thing != {}] + [{"x": 0}, {"x": 5}, {"x": -1}, {"x": True}, {"x": "1"}, {"x": None}, {"": 0}, {"z": 0}, {"x": 1, 1: 1}]
        for function in [always, is_always_zero]:
            self.refused_all(InvalidSum, bad, function, summing(), ("c",), None, at=2)
            for wanted, name in [({"z": 1}, "z"), ({"z": 1, "c": 1, "x": 1, "": 1}, "c"), ({"#0": 1, "Q!": 2}, "#0"), ({"x.y": 1}, "x.y"), ({" ": 4}, " ")]:
                self.refused(UnknownHolder, name, function, summing(), ("c",), wanted)
            self.refused(UnknownHolder, "@0.0", function, summing_rows(), ("m", ()), {"#1": 1, "x": 1, "@0.0": 2})
            self.refused(InvalidSum, {"q": 0}, function, summing(), ("c",), {"q": 0})


class Point33(Against):
    def test_against_the_kept_states(self):
        for one, where, holders, passed, _ in self.each(range(120), 5):
            kept = [list(state.values()) + [1] for _, state in kept_at(one.engine, where)]
            found = always_zero(one.engine, where)
            if not kept:
                self.assertIsNone(found)
                continue
            keys = holders + [""]
            vectors = [[wanted.get(key, 0) for key in keys] for wanted in found]
            self.assertEqual(reduced(one.prime, vectors), vectors)
            self.assertEqual(len(vectors), len(keys) - rank(one.prime, kept))
            for wanted, vector in zip(found, vectors):
                self.assertEqual(list(wanted), sorted(wanted))
                self.assertNotIn(0, wanted.values())
                self.assertIs(is_always_zero(one.engine, where, wanted), True)
                for _, state in passed:
                    self.assertEqual(sum(a * b for a, b in zip(vector, list(state.values()) + [1])) % one.prime, 0)

    def test_told_ones(self):
        self.assertEqual(always_zero(summing(), ("b",)), [])
        self.assertIsNone(always_zero(summing_rows(), ("no", ())))
        fixed = Program(5, ["b", "a"], [], ([], [("set", "s", "a", {"": 3}), ("set", "t", "b", {"a": 2, "": 1}), ("pass", "u")]))
        self.assertEqual(always_zero(fixed, ("u",)), [{"": 2, "a": 1}, {"": 3, "b": 1}])
        self.assertEqual(always_zero(Program(5, [], [], ([], [("pass", "u")])), ("u",)), [])


class Results(Checks):
    def test_results_may_be_changed_and_names(self):
        for engine, where, inputs in [(summing(), ("c",), [ONE, ROUND]), (summing_rows(), ("m", ()), [ONE, ROUND, ON])]:
            state = state_at(engine, where, inputs)
            wanted = {key: 1 for key in state}
            calls = [(state_at, {"inputs": inputs}), (kept_at, {}), (is_mixture, {"value": state}), (always, {"wanted": wanted}),
                     (always_zero, {}), (is_always_zero, {"wanted": wanted})]
            for function, more in calls:
                self.unhurt(function, engine, where, *more.values())
                self.same_by_names(function, engine=engine, where=where, **more)
