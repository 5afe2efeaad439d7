"""Points 80 to 83: putting variables to told numbers, alone and together, and papers where that cannot be."""

import itertools
import random
import unittest

from tests.beside import all_beside
from tests.checks import Checks, bent_ones
from tests.odd import odd_objects
from tests.test_benches import bad_marks
from tests.test_books import SEEN, plain, right_readings
from tests.test_moving import joined, some_stirs, stock_of_all_kinds
from tests.test_pieces import orderly, out_of_order_bench
from tests.woven import woven_stock
from truestops.benches import Bench
from truestops.books import honest_change, is_why_not_honest
from truestops.errors import (
    InvalidAmounts,
    InvalidBench,
    InvalidDump,
    InvalidReadings,
    InvalidRule,
    InvalidSum,
    NeverPassed,
    OutOfOrder,
    Stray,
    Uneven,
    UnknownHolder,
    UnknownMark,
    UnknownStop,
)
from truestops.numbers import rank, reduced
from truestops.programs import Program
from truestops.putting import counted_sums, is_put_rule, is_why_unput, put_numbers, put_rule, why_unput
from truestops.reading import are_read_runs, read_rule
from truestops.rows import Rows

M, C = ("m", ()), ("c",)
BOTH = {"#0": {"=x": 1, "=y": 1}}
RUNS = [([("number", 1), ("number", 0)], 1), ([("number", 0), ("number", 1)], 4)]


def desk(prime=5):
    """The sum of two variables is kept, and neither of them."""
    tale = Program(prime, ["x", "y"], [], ([], [("read", "a", "x"), ("read", "b", "y"), ("print", "c", {"x": 1, "y": 1})]))
    rows = [("read", 0), ("read", 1), ("add", 0, 1), ("set", 1, 0), ("mark", "m", [("c",)]), ("print", 0), ("end",)]
    return Bench(tale, Rows(prime, 2, {"main": (0, rows)}))


def open_desk():
    """Both variables are kept, and only their sum is printed."""
    tale = Program(5, ["x", "y"], [], ([], [("read", "a", "x"), ("read", "b", "y"), ("print", "c", {"x": 1, "y": 1})]))
    rows = [("read", 0), ("read", 1), ("mark", "m", [("c",)]), ("add", 0, 1), ("print", 0), ("end",)]
    return Bench(tale, Rows(5, 2, {"main": (0, rows)}))


def holds_in_runs(beside, names, rule, numbers, most, many=None):
    """Whether a put rule is right from all known runs along short goings-on, for these told numbers."""
    prime = beside.prime
    for inputs, variables, holders in beside.runs[:many]:
        state = dict(zip(beside.variables, variables))
        rows = dict(zip(beside.holders, holders))
        known = {**rows, "": 1, **{"=" + name: n for name, n in zip(names, numbers)}}
        stir = {name: (n - state[name]) % prime for name, n in zip(names, numbers)}
        change = {holder: (sum(n * known[key] for key, n in wanted.items()) - rows[holder]) % prime for holder, wanted in rule.items()}
        for going_on in list(beside.goings_on(2))[:most]:
            if any(a != b for a, b in beside.told(inputs, going_on, stir, change)):
                return False
    return True


class Point80(Checks):
    def test_rules_against_runs(self):
        told = {None: 0, "move": 0, "read": 0}
        for prime in [2, 3, 5, 65537]:
            chance = random.Random(prime)
            for stock in orderly(stock_of_all_kinds(40, prime)):
                readings = right_readings(chance, stock.bench, chance.choice([0, 0, 2]))
                for beside in all_beside(stock, readings):
                    for _ in range(3):
                        names = chance.sample(beside.variables, chance.randint(0, min(3, len(beside.variables))))
                        args = (stock.bench, readings, beside.mark, beside.stop, names)
                        rule, paper = put_rule(*args), why_unput(*args)
                        self.assertEqual(rule is None, paper is not None)
                        told[None if paper is None else paper[0]] += 1
                        self.is_as_the_point_says(args, rule)
                        if rule is not None:
                            self.assertTrue(is_put_rule(*args, rule))
                            numbers = [chance.randrange(prime) for _ in names]
                            self.assertTrue(holds_in_runs(beside, names, rule, numbers, 4, 6))
                        else:
                            self.assertTrue(is_why_unput(*args, paper))
                            self.paper_holds(beside, args, paper)
        self.assertGreater(min(told.values()), 20)

    def is_as_the_point_says(self, args, rule):
        """There is one exactly if each variable has an honest change, and each counted sum can be read."""
        bench, readings, mark, stop, names = args
        moved = all(honest_change(bench, readings, mark, stop, {name: 1}) is not None for name in names)
        counted = counted_sums(bench, readings, mark, stop, names)
        read = all(read_rule(bench, mark, stop, wanted) is not None for wanted in counted)
        self.assertEqual(rule is not None, moved and read)

    def paper_holds(self, beside, args, paper):
        if paper[0] == "move":
            self.assertIn(paper[1], args[4])
            self.assertTrue(beside.bar_holds({paper[1]: 1}, paper[2]))
            self.assertTrue(is_why_not_honest(*args[:4], {paper[1]: 1}, paper[2]))
        else:
            mine, _ = beside.hangs(paper[1])[paper[2]]
            counted = {name: n for name, n in zip(beside.variables, mine) if n and name in args[4]}
            self.assertTrue(are_read_runs(args[0], args[2], args[3], counted, paper[3]))

    def test_bent_rules_against_runs(self):
        wrong = sure = 0
        for prime in [2, 3]:
            chance = random.Random(prime)
            for stock in woven_stock(range(80), prime, 2, prime):
                for beside in all_beside(stock):
                    names = chance.sample(beside.variables, chance.randint(1, 2))
                    rule = put_rule(stock.bench, [], beside.mark, beside.stop, names)
                    if rule is not None:
                        for bent in self.bent_rules(chance, rule, beside, names):
                            right = is_put_rule(stock.bench, [], beside.mark, beside.stop, names, bent)
                            wrong += not right
                            if right:
                                for numbers in itertools.product(range(prime), repeat=len(names)):
                                    self.assertTrue(holds_in_runs(beside, names, bent, numbers, 9))
                            elif len(list(beside.goings_on(3))) == 1 and self.are_all_runs_known(stock, beside):
                                every = itertools.product(range(prime), repeat=len(names))
                                self.assertFalse(all(holds_in_runs(beside, names, bent, numbers, 9) for numbers in every))
                                sure += 1
        self.assertGreater(wrong, 20)
        self.assertGreater(sure, 10)

    def are_all_runs_known(self, stock, beside):
        """Whether the known runs show all that any do."""
        vectors = [variables + holders + [1] for _, variables, holders in beside.runs]
        return rank(stock.prime, vectors) == len(stock.bench.passings.runs_to(beside.mark, beside.stop))

    def bent_rules(self, chance, rule, beside, names):
        keys = beside.holders + [""] + ["=" + name for name in names]
        for _ in range(4):
            holder, key = chance.choice(beside.holders), chance.choice(keys)
            wanted = dict(rule.get(holder, {holder: 1}))
            wanted[key] = (wanted.get(key, 0) + chance.randrange(1, beside.prime)) % beside.prime
            yield {**rule, holder: {key: n for key, n in wanted.items() if n}}

    def test_together_though_not_alone(self):
        for prime in [2, 3, 5, 65537]:
            bench = desk(prime)
            self.assertIsNone(put_rule(bench, [], M, C, ["x"]))
            self.assertIsNone(put_rule(bench, [], M, C, ["y"]))
            self.assertEqual(put_rule(bench, [], M, C, ["x", "y"]), BOTH)
            self.assertEqual(put_rule(bench, [], M, C, ["y", "x"]), BOTH)
        self.assertTrue(is_put_rule(desk(), [], M, C, ["y", "x"], {"#0": {"=x": 1, "=y": 1}, "#1": {"": 3, "#0": 2, "=x": 4}}))

    def test_holders_that_change_and_those_that_stay(self):
        bench = open_desk()
        self.assertEqual(put_rule(bench, [], M, C, []), {})
        self.assertTrue(is_put_rule(bench, [], M, C, [], {}))
        self.assertTrue(is_put_rule(bench, [], M, C, [], {"#0": {"#0": 1}}))
        self.assertTrue(is_put_rule(bench, [], M, C, [], {"#0": {"#1": 1}, "#1": {"#0": 1}}))
        self.assertFalse(is_put_rule(bench, [], M, C, [], {"#0": {"#1": 1}}))
        self.assertTrue(is_put_rule(bench, [], M, C, ["x"], {"#0": {"=x": 1}}))
        self.assertTrue(is_put_rule(bench, [], M, C, ["x"], {"#0": {}, "#1": {"#1": 1, "=x": 1}}))
        self.assertFalse(is_put_rule(bench, [], M, C, ["x"], {"#0": {"=x": 1, "#1": 1}}))
        self.assertFalse(is_put_rule(bench, [], M, C, ["x"], {"#1": {"=x": 1}}))
        self.assertFalse(is_put_rule(bench, [], M, C, ["x"], {}))
        rule = put_rule(bench, [], M, C, ["x", "y"])
        self.assertTrue(is_put_rule(bench, [], M, C, ["x", "y"], rule))

    def test_readings_ask_for_more(self):
        bench = open_desk()
        one = [("read", M, C, {"x": 1}, {"#0": 1})]
        self.assertTrue(is_put_rule(bench, one, M, C, ["x"], {"#0": {"=x": 1}}))
        self.assertFalse(is_put_rule(bench, one, M, C, ["x"], {"#0": {}, "#1": {"#1": 1, "=x": 1}}))
        self.assertEqual(put_rule(bench, one, M, C, ["x"]), {"#0": {"=x": 1}})
        self.assertIsNone(put_rule(desk(), [("read", M, C, {"x": 1, "y": 1}, {"#0": 1})], M, C, ["x"]))

    def test_bent_forms(self):
        right = {"#0": {"=x": 1, "=y": 1}}
        bench = desk()
        fine = [{"#0": {"=x": 1, "=y": 1}, "#1": wanted} for wanted in [{}, {"": 1}, {"#1": 4}]]
        for value in fine:
            self.assertTrue(is_put_rule(bench, [], M, C, ["x", "y"], value))
        for bent in bent_ones(right) + odd_objects() + [None, {"#0": {"=x": 1, "=y": 1}, "#1": {"x": 1}}, {"#0": {"=x": 1, "=y": 1}, "#2": {}}, {"#0": {"=x": 1, "=y": 1}, "#1": {"=z": 1}}, {"#0": {"=x": 1, "=y": 1, "#1": 0}}, {"#0": {"=x": 6, "=y": 1}}, {"#0": {"=x": 1, "=y": 1}, "#1": 0}]:
            self.assertFalse(is_put_rule(bench, [], M, C, ["x", "y"], bent), bent)
        self.assertFalse(is_put_rule(bench, [], M, C, ["x"], right))

    def test_results_may_be_changed_and_stand_in_order(self):
        bench = open_desk()
        self.unhurt(put_rule, bench, [], M, C, ["x", "y"])
        rule = put_rule(joined(2), [], M, ("r",), ["y"])
        self.assertEqual(rule, {"#0": {"#0": 1, "=y": 3}})
        told = put_rule(open_desk(), [], M, C, ["x"])
        self.assertEqual([list(told), [list(wanted) for wanted in told.values()]], [sorted(told), [sorted(wanted) for wanted in told.values()]])


class Point81(Checks):
    def test_against_runs(self):
        for prime in [2, 3]:
            chance = random.Random(prime)
            for stock in orderly(stock_of_all_kinds(30, prime)):
                readings = right_readings(chance, stock.bench, chance.choice([0, 2]))
                for beside in all_beside(stock, readings):
                    names = sorted(chance.sample(beside.variables, chance.randint(0, min(3, len(beside.variables)))))
                    at = [beside.variables.index(name) for name in names]
                    counted = [[mine[place] for place in at] for g in beside.goings_on(4) for mine, _ in beside.hangs(g)]
                    expected = [{name: n for name, n in zip(names, vector) if n} for vector in reduced(prime, counted)] if names else []
                    told = counted_sums(stock.bench, readings, beside.mark, beside.stop, names)
                    # Some numbers are printed only behind more letters.
                    if told != expected:
                        longer = [[mine[place] for place in at] for g in beside.goings_on(7) for mine, _ in beside.hangs(g)]
                        expected = [{name: n for name, n in zip(names, vector) if n} for vector in reduced(prime, longer)]
                    self.assertEqual(told, expected)

    def test_plain_ones(self):
        self.assertEqual(counted_sums(desk(), [], M, C, ["x", "y"]), [{"x": 1, "y": 1}])
        self.assertEqual(counted_sums(desk(), [], M, C, ["y", "x"]), [{"x": 1, "y": 1}])
        self.assertEqual(counted_sums(desk(), [], M, C, ["x"]), [{"x": 1}])
        self.assertEqual(counted_sums(desk(), [], M, C, []), [])
        self.assertEqual(counted_sums(plain(), [], M, ("s",), ["x"]), [{"x": 1}])
        self.assertEqual(counted_sums(open_desk(), [("read", M, C, {"x": 1}, {"#0": 1})], M, C, ["x", "y"]), [{"x": 1}, {"y": 1}])
        silent = Bench(Program(5, ["x"], [], ([], [("read", "a", "x"), ("pass", "s")])), Rows(5, 1, {"main": (0, [("read", 0), ("mark", "m", [("s",)]), ("end",)])}))
        self.assertEqual(counted_sums(silent, [], M, ("s",), ["x"]), [])
        self.assertTrue(is_put_rule(silent, [], M, ("s",), ["x"], {}))
        self.assertEqual(put_rule(silent, [], M, ("s",), ["x"]), {})
        self.unhurt(counted_sums, desk(), [], M, C, ["x", "y"])


class Point82(Checks):
    def test_each_kind_bent(self):
        bench = desk()
        read = ("read", [], 0, RUNS)
        self.assertTrue(is_why_unput(bench, [], M, C, ["x"], read))
        self.assertTrue(is_why_unput(bench, [], M, C, ["y"], read))
        self.assertFalse(is_why_unput(bench, [], M, C, ["x", "y"], read))
        self.assertFalse(is_why_unput(bench, [], M, C, [], read))
        for bent in bent_ones(read) + odd_objects() + [None, ("move", [], 0, RUNS), ("read", [], 1, RUNS), ("read", [("choice", 0)], 0, RUNS), read + (1,)]:
            # Runs by other numbers may be right, too.
            if type(bent) is not tuple or len(bent) != 4 or not are_read_runs(bench, M, C, {"x": 1}, bent[3]) or bent[:3] != read[:3]:
                self.assertFalse(is_why_unput(bench, [], M, C, ["x"], bent), bent)
        from tests.test_books import double
        both, s = double(), ("s",)
        paper = ("move", "x", [([], 0, 1), ([], 1, 4)])
        self.assertTrue(is_why_unput(both, [], M, s, ["x"], paper))
        self.assertTrue(is_why_unput(both, [], M, s, ["y", "x"], paper))
        self.assertFalse(is_why_unput(both, [], M, s, ["y"], paper))
        self.assertTrue(is_why_unput(both, [], M, s, ["y"], ("move", "y", [([], 0, 4), ([], 1, 1)])))
        for bent in bent_ones(paper) + [("move", "x"), ("read", "x", paper[2]), ["move", "x", paper[2]]]:
            if bent != ("move", "x", paper[2][::-1]):
                self.assertFalse(is_why_unput(both, [], M, s, ["x"], bent), bent)
        self.unhurt(why_unput, both, [], M, s, ["x"])
        self.unhurt(why_unput, bench, [], M, C, ["x"])
        self.assertIsNone(why_unput(bench, [], M, C, ["x", "y"]))
        self.assertEqual(why_unput(bench, [], M, C, ["x"])[:3], ("read", [], 0))

    def test_readings_count(self):
        readings = [("read", M, C, {"x": 1, "y": 1}, {"#0": 1})]
        self.assertTrue(is_why_unput(desk(), readings, M, C, ["x"], ("read", [], 1, RUNS)))
        self.assertFalse(is_why_unput(desk(), readings, M, C, ["x"], ("read", [], 2, RUNS)))
        self.assertFalse(is_why_unput(desk(), [], M, C, ["x"], ("read", [], 1, RUNS)))

    def test_where_a_mark_is_joined(self):
        # Behind one arm the sum of both is kept, behind the other one x is there by itself.
        arms = [([], [("pass", "p")]), ([], [("set", "q", "y", {}), ("pass", "r")])]
        program = Program(5, ["x", "y"], [], ([], [("read", "a", "x"), ("read", "b", "y"), ("pick", "k", arms), ("print", "e", {"x": 1, "y": 1})]))
        rows = [("read", 0), ("read", 1), ("pick", [3, 5]), ("add", 0, 1), ("go", 5), ("mark", "m", [("p",), ("r",)]), ("print", 0), ("end",)]
        bench = Bench(program, Rows(5, 2, {"main": (0, rows)}))
        self.assertEqual(put_rule(bench, [], M, ("r",), ["x"]), {"#0": {"=x": 1}})
        # At the first stop box 1 still holds y, though x is in the sum alone.
        rule = put_rule(bench, [], M, ("p",), ["x"])
        self.assertEqual(rule, {"#0": {"#1": 1, "=x": 1}})
        self.assertFalse(is_put_rule(bench, [], M, ("r",), ["x"], rule))
        self.assertFalse(is_put_rule(bench, [], M, ("p",), ["x"], {"#0": {"=x": 1}}))


class Point83(Checks):
    def test_sums_are_reckoned_by_the_holders_as_they_were(self):
        bench = open_desk()
        swap = {"#0": {"#1": 1}, "#1": {"#0": 1, "": 2, "=x": 3}}
        self.assertEqual(put_numbers(bench, M, swap, {"#0": 3, "#1": 4}, {"x": 1}), {"#0": 4, "#1": 3})
        self.assertEqual(put_numbers(bench, M, {}, {"#1": 4, "#0": 3}, {}), {"#0": 3, "#1": 4})
        self.assertEqual(list(put_numbers(bench, M, {}, {"#1": 4, "#0": 3}, {})), ["#0", "#1"])
        self.assertEqual(put_numbers(bench, M, {"#0": {}}, {"#1": 4, "#0": 3}, {"x": 0, "any thing": 4}), {"#0": 0, "#1": 4})
        self.assertEqual(put_numbers(bench, M, {"#0": {"=c.d.x": 2, "=x": 1}}, {"#1": 4, "#0": 3}, {"x": 4, "c.d.x": 4}), {"#0": 2, "#1": 4})
        self.unhurt(put_numbers, bench, M, swap, {"#0": 3, "#1": 4}, {"x": 1})

    def test_by_rules_that_were_found(self):
        for stock in woven_stock(range(40), 3, 2, 3):
            for beside in all_beside(stock):
                rule = put_rule(stock.bench, [], beside.mark, beside.stop, beside.variables[:2])
                if rule is not None:
                    inputs, variables, holders = beside.runs[-1]
                    wishes = {name: 2 for name in beside.variables[:2]}
                    told = put_numbers(stock.bench, beside.mark, rule, dict(zip(beside.holders, holders)), wishes)
                    change = {name: (told[name] - n) % 3 for name, n in zip(beside.holders, holders)}
                    stir = {name: (2 - n) % 3 for name, n in zip(beside.variables[:2], variables)}
                    for going_on in list(beside.goings_on(2))[:5]:
                        self.assertTrue(all(a == b for a, b in beside.told(inputs, going_on, stir, change)))

    def test_errors_in_their_order(self):
        bench, state = desk(), {"#0": 3, "#1": 0}
        bad = [thing for thing in odd_objects() if thing != {}] + [{"#2": {}}, {"#0": {"x": 1}}, {"#0": {"=": 1}}, {"#0": {"#0": 0}}, {"#0": {"#0": 5}}, {"#0": {"=x": True}}, {"#0": 1}, {"=x": {"#0": 1}}, {"x": {}}, {"#0": {"#2": 1}}, {"#0": [("=x", 1)]}]
        self.refused_all(InvalidRule, bad, put_numbers, bench, M, None, state, {"x": 1, "y": 1}, at=2)
        bad = odd_objects() + [{"#0": 3}, {"#0": 3, "#1": 0, "#2": 0}, {"#0": 3, "#1": 5}, {"#0": 3, "#1": True}, {"#0": 3, "#1": -1}]
        self.refused_all(InvalidDump, bad, put_numbers, bench, M, BOTH, None, {"x": 1, "y": 1}, at=3)
        bad = [thing for thing in odd_objects() if type(thing) is not dict] + [{"": 1}, {"x": 5}, {"x": True}, {1: 1}, {"x": None}]
        self.refused_all(InvalidSum, bad, put_numbers, bench, M, BOTH, state, None, at=4)
        self.refused(UnknownHolder, "x", put_numbers, bench, M, {"#1": {"=y": 1, "=x": 1}, "#0": {"=z": 1}}, state, {})
        self.refused(UnknownHolder, "y", put_numbers, bench, M, BOTH, state, {"x": 1, "z": 1})
        self.refused(InvalidSum, {"": 1}, put_numbers, bench, M, BOTH, state, {"": 1})
        self.refused_all(InvalidBench, odd_objects(), put_numbers, None, M, {}, state, {}, at=0)
        self.refused_all(UnknownMark, odd_objects(), put_numbers, bench, None, {}, state, {}, at=1)
        for name, kind in [("n", NeverPassed), ("s", Stray), ("u", Uneven)]:
            self.refused(kind, (name, ()), put_numbers, bad_marks(), (name, ()), 7, 7, 7)
        # Its marks need not be in order.
        self.assertEqual(put_numbers(out_of_order_bench(), M, {}, {"#0": 1}, {}), {"#0": 1})


class Errors(Checks):
    def every(self):
        return [(put_rule, []), (is_put_rule, [{}]), (counted_sums, []), (why_unput, []), (is_why_unput, [None])]

    def test_each_argument(self):
        for function, more in self.every():
            self.refused_all(InvalidBench, odd_objects() + [desk().rows()], function, None, [], M, C, ["x"], *more, at=0)
            self.refused_all(OutOfOrder, [out_of_order_bench()], function, None, [], M, C, ["x"], *more, at=0)
            bad = [thing for thing in odd_objects() if thing != []] + [[SEEN], [("read", M, C, {"x": 1}, {"#0": 1})], (), [("change", M, C, {"x": 1}, {})]]
            self.refused_all(InvalidReadings, bad, function, desk(), None, M, C, ["x"], *more, at=1)
            self.refused_all(UnknownMark, odd_objects(), function, desk(), [], None, C, ["x"], *more, at=2)
            self.refused_all(UnknownStop, odd_objects() + [("a",)], function, desk(), [], M, None, ["x"], *more, at=3)
            for name, kind in [("n", NeverPassed), ("s", Stray), ("u", Uneven)]:
                self.refused(kind, (name, ()), function, bad_marks(), [], (name, ()), 8, 8, *more)
            bad = [thing for thing in odd_objects() if thing not in ([], ["x"])] + [("x",), {"x": 1}, ["x", "x"], ["z", "z"], ["x", 1], [True]]
            self.refused_all(InvalidAmounts, bad, function, desk(), [], M, C, None, *more, at=4)
            for names, first in [(["z"], "z"), (["x", "#0", "a"], "#0"), ([""], ""), (["y", "x.y", "z"], "x.y")]:
                self.refused(UnknownHolder, first, function, desk(), [], M, C, names, *more)

    def test_names(self):
        named = dict(bench=desk(), readings=[], mark=M, stop=C)
        self.same_by_names(put_rule, **named, names=["x", "y"])
        self.same_by_names(counted_sums, **named, names=["x", "y"])
        self.same_by_names(why_unput, **named, names=["x"])
        for function, more in [(is_put_rule, {"names": ["x", "y"], "value": BOTH}), (is_why_unput, {"names": ["x"], "value": ("read", [], 0, RUNS)})]:
            told = dict(named, **more)
            self.assertTrue(function(**dict(reversed(told.items()))))
        self.same_by_names(put_numbers, bench=desk(), mark=M, rule=BOTH, holders={"#0": 3, "#1": 0}, wishes={"x": 1, "y": 1})


if __name__ == "__main__":
    unittest.main()
