"""Points 65 to 70: moving variables by changes of the holders, bars, knobs, moved runs."""

import itertools
import random
import unittest

from tests.beside import all_beside
from tests.checks import Checks, bent_ones
from tests.odd import odd_objects
from tests.stock import chance_stock, joined_stock
from tests.test_benches import bad_marks
from tests.woven import woven_stock
from truestops.benches import Bench
from truestops.errors import (
    InvalidBench,
    InvalidChange,
    InvalidInputs,
    InvalidNumber,
    InvalidSum,
    NeverPassed,
    Stray,
    Uneven,
    UnknownHolder,
    UnknownMark,
    UnknownStop,
)
from truestops.moving import (
    are_knobs,
    change_for,
    change_with_knobs,
    common_change,
    fewest_knobs,
    is_change_for,
    is_change_with_knobs,
    is_common_change,
    is_why_no_common,
    is_why_unmoved,
    knobs,
    movable_stirs,
    moved_run,
    why_no_common,
    why_unmoved,
)
from truestops.numbers import rank
from truestops.programs import Program
from truestops.rows import Rows
from truestops.seen import is_idle

NOUGHT, ONE, ON, OFF = ("number", 0), ("number", 1), ("choice", 1), ("choice", 0)
M, C = ("m", ()), ("c",)


def thin():
    """Two variables, one of which is twice the other, printed by rows that keep one box."""
    lines = [("read", "a", "x"), ("set", "b", "y", {"x": 2}), ("print", "c", {"x": 1, "y": 1})]
    double = Program(5, [], [], (["x", "y"], lines + [("again", "d", ([], [("print", "e", {"y": 1})]))]))
    first = [("read", 0), ("mark", "m", [("c",)]), ("copy", 1, 0), ("times", 1, 3), ("print", 1), ("copy", 1, 0), ("times", 1, 2)]
    return Bench(double, Rows(5, 2, {"main": (0, first + [("pick", [10, 8]), ("print", 1), ("go", 7), ("end",)])}))


def joined(factor):
    """A mark that joins two arms; behind the one x is printed, behind the other one x times a factor."""
    arms = [([], [("pass", "p")]), ([], [("set", "q", "x", {"x": factor}), ("pass", "r")])]
    program = Program(5, [], [], (["x", "y"], [("read", "a", "x"), ("pick", "k", arms), ("print", "e", {"x": 1, "y": 3})]))
    rows = [("read", 0), ("pick", [2, 3]), ("go", 4), ("times", 0, factor), ("mark", "m", [("p",), ("r",)]), ("print", 0), ("end",)]
    return Bench(program, Rows(5, 2, {"main": (0, rows)}))


def some_stirs(chance, prime, names, many):
    for _ in range(many):
        found = {name: chance.randrange(prime) for name in chance.sample(names, chance.randint(0, min(3, len(names))))}
        yield {name: n for name, n in found.items() if n}


def stock_of_all_kinds(seeds, prime):
    yield from woven_stock(range(seeds), prime, 2, 2)
    yield from woven_stock(range(seeds // 2), prime, 3, 2, 0.6, True)
    yield from chance_stock(range(seeds), prime, 3, 1)
    yield from joined_stock(range(seeds // 3), prime) if prime < 10 else []


def whole_span(prime, stirs):
    """All stirs that a basis spans."""
    for factors in itertools.product(range(prime), repeat=len(stirs)):
        total = {}
        for factor, stir in zip(factors, stirs):
            for name, n in stir.items():
                total[name] = (total.get(name, 0) + factor * n) % prime
        yield {name: n for name, n in sorted(total.items()) if n}


class Point65(Checks):
    def test_changes_against_runs(self):
        for prime in [2, 3, 5, 65537]:
            chance = random.Random(prime)
            for stock in stock_of_all_kinds(30, prime):
                for beside in all_beside(stock):
                    for stir in some_stirs(chance, prime, beside.variables, 3):
                        change = change_for(stock.bench, beside.mark, beside.stop, stir)
                        if change is not None:
                            self.assertTrue(is_change_for(stock.bench, beside.mark, beside.stop, stir, change))
                            self.hold(chance, beside, stir, change, 3)

    def hold(self, chance, beside, stir, change, most):
        inputs, _, _ = chance.choice(beside.runs)
        for n in {1, chance.randrange(beside.prime), beside.prime - 1}:
            raised = {name: n * amount % beside.prime for name, amount in stir.items()}
            moved = {name: n * amount % beside.prime for name, amount in change.items()}
            for going_on in list(beside.goings_on(2))[:most]:
                self.assertTrue(all(a == b for a, b in beside.told(inputs, going_on, raised, moved)))

    def test_judges_against_all_goings_on(self):
        # All changes of few holders: those that are right in short goings-on alone may be wrong, the others are wrong.
        for stock in woven_stock(range(60), 2, 2, 2):
            for beside in all_beside(stock):
                hanging = [h for g in beside.goings_on(3) for h in beside.hangs(g)]
                for stir in [{}, {"w": 1}, {"ax": 1}, {"ax": 1, "by": 1}]:
                    right = []
                    for amounts in itertools.product(range(2), repeat=len(beside.holders)):
                        change = {name: n for name, n in zip(beside.holders, amounts) if n}
                        if is_change_for(stock.bench, beside.mark, beside.stop, stir, change):
                            right.append(change)
                        shows = [sum(a * b for a, b in zip(theirs, amounts)) % 2 for _, theirs in hanging]
                        due = [sum(n * stir.get(name, 0) for name, n in zip(beside.variables, mine)) % 2 for mine, _ in hanging]
                        self.assertLessEqual(change in right, shows == due)
                    found = change_for(stock.bench, beside.mark, beside.stop, stir)
                    self.assertEqual(found is None, not right)
                    self.assertTrue(found is None or found in right)

    def test_movable_stirs(self):
        for prime in [2, 3]:
            for stock in stock_of_all_kinds(30, prime):
                for beside in all_beside(stock):
                    basis = movable_stirs(stock.bench, beside.mark, beside.stop)
                    vectors = [[stir.get(name, 0) for name in beside.variables] for stir in basis]
                    self.assertEqual(rank(prime, vectors), len(vectors))
                    span = list(whole_span(prime, basis))
                    for amounts in itertools.islice(itertools.product(range(prime), repeat=len(beside.variables)), 40):
                        stir = {name: n for name, n in zip(beside.variables, amounts) if n}
                        self.assertEqual(stir in span, change_for(stock.bench, beside.mark, beside.stop, stir) is not None)

    def test_plain_ones(self):
        bench = thin()
        self.assertEqual(movable_stirs(bench, M, C), [{"x": 1, "y": 2}])
        self.assertEqual(change_for(bench, M, C, {}), {})
        self.assertTrue(is_change_for(bench, M, C, {}, {"#1": 3}))
        self.assertTrue(is_change_for(bench, M, C, {"y": 4, "x": 2}, {"#0": 2}))
        self.assertFalse(is_change_for(bench, M, C, {"x": 2, "y": 4}, {"#0": 1}))
        for value in odd_objects() + [None, {"#0": 2, "": 1}, {"#0": 0}, {"#0": 7}, {"#2": 1, "#0": 2}, {"x": 2}, [("#0", 2)]]:
            self.assertFalse(value != {} and is_change_for(bench, M, C, {"x": 2, "y": 4}, value), value)

    def test_idle_stirs_of_what_is_out_of_sight(self):
        # The number of an outer variable is out of sight in the procedure; it counts nowhere.
        inner = ("in", ["z"], [], ([], [("print", "p", {"z": 1})]))
        program = Program(3, [], [inner], (["x"], [("read", "a", "x"), ("call", "c", "in", [{"x": 2}], [])]))
        rows = Rows(3, 1, {"main": (0, [("read", 0), ("times", 0, 2), ("mark", "m", [("c", "p")]), ("print", 0), ("end",)])})
        bench = Bench(program, rows)
        self.assertEqual(movable_stirs(bench, M, ("c", "p")), [{"c.z": 1}, {"x": 1}])
        self.assertTrue(is_idle(program, ("c", "p"), {"x": 1}))
        self.assertEqual(change_for(bench, M, ("c", "p"), {"x": 2}), {})
        self.assertEqual(change_for(bench, M, ("c", "p"), {"x": 2, "c.z": 2}), {"#0": 2})

    def test_the_order_of_holders_means_nothing_and_is_ascending(self):
        bench = joined(2)
        self.assertEqual(list(change_for(bench, M, ("p",), {"y": 2, "x": 1})), ["#0"])
        self.assertEqual(repr(change_for(bench, M, ("p",), {"y": 2, "x": 1})), repr(change_for(bench, M, ("p",), {"x": 1, "y": 2})))
        self.unhurt(change_for, bench, M, ("p",), {"y": 2, "x": 1})
        self.unhurt(movable_stirs, bench, M, ("p",))


class Point66(Checks):
    def test_bars_against_runs(self):
        many = 0
        for prime in [2, 3, 5, 65537]:
            chance = random.Random(prime)
            for stock in stock_of_all_kinds(40, prime):
                for beside in all_beside(stock):
                    for stir in list(some_stirs(chance, prime, beside.variables, 2)) + [{name: 1} for name in beside.variables]:
                        bar = why_unmoved(stock.bench, beside.mark, beside.stop, stir)
                        self.assertEqual(bar is None, change_for(stock.bench, beside.mark, beside.stop, stir) is not None)
                        if bar is not None:
                            many += 1
                            self.assertLessEqual(len(bar), len(beside.holders) + 1)
                            self.assertTrue(beside.bar_holds(stir, bar))
                            self.assertTrue(is_why_unmoved(stock.bench, beside.mark, beside.stop, stir, bar))
        self.assertGreater(many, 100)

    def test_bent_bars(self):
        bench = thin()
        bar = [([], 0, 1), ([ON], 1, 1)]
        self.assertTrue(is_why_unmoved(bench, M, C, {"x": 1}, bar))
        self.assertTrue(is_why_unmoved(bench, M, C, {"x": 1}, bar[::-1]))
        self.assertTrue(is_why_unmoved(bench, M, C, {"x": 1}, [([ON, ON, OFF], 0, 1), ([ON, ON], 2, 1)]))
        for bent in bent_ones(bar) + odd_objects() + [None, []]:
            if bent != bar[::-1] and bent != [([ON], 0, 1), ([ON], 1, 1)] and bent != [([], 0, 1), ([ON, ON], 1, 1)]:
                self.assertFalse(is_why_unmoved(bench, M, C, {"x": 1}, bent), bent)
        self.assertFalse(is_why_unmoved(bench, M, C, {"x": 2}, bar))
        self.assertFalse(is_why_unmoved(bench, M, C, {"x": 1, "y": 2}, bar))
        # A number twice is harmless unless by one going-on and one position.
        self.assertFalse(is_why_unmoved(bench, M, C, {"x": 1}, [([], 0, 3), ([], 0, 3), ([ON], 1, 1)]))
        self.assertTrue(is_why_unmoved(bench, M, C, {"x": 1}, [([], 0, 3), ([ON], 0, 3), ([ON], 1, 1)]))
        self.assertTrue(is_why_unmoved(bench, M, C, {"x": 1}, [([], 0, 3), ([ON], 0, 3), ([ON], 1, 3), ([ON, ON], 1, 3)]))

    def test_bent_bars_against_runs(self):
        for stock in woven_stock(range(50), 3, 1, 1):
            for beside in all_beside(stock):
                for name in beside.variables:
                    bar = why_unmoved(stock.bench, beside.mark, beside.stop, {name: 1})
                    if bar is not None:
                        self.assertFalse(is_why_unmoved(stock.bench, beside.mark, beside.stop, {name: 1}, bar[1:]))
                        for at, (going_on, position, factor) in enumerate(bar):
                            for bent in [(going_on, position, 3 - factor), (going_on, position + 1, factor), (going_on + [ON], position, factor)]:
                                value = bar[:at] + [bent] + bar[at + 1:]
                                fits = self.fits(beside, value)
                                expected = fits and beside.bar_holds({name: 1}, value) and len({repr(v[:2]) for v in value}) == len(value)
                                self.assertEqual(is_why_unmoved(stock.bench, beside.mark, beside.stop, {name: 1}, value), expected)

    def fits(self, beside, value):
        for going_on, position, _ in value:
            if beside.stock.one.told(beside.runs[0][0] + going_on) is None or position >= len(beside.hangs(going_on)):
                return False
        return True

    def test_nothing_bars_what_is_movable(self):
        bench = thin()
        self.assertIsNone(why_unmoved(bench, M, C, {"x": 2, "y": 4}))
        self.assertIsNone(why_unmoved(bench, M, C, {}))
        self.unhurt(why_unmoved, bench, M, C, {"x": 1})


class Point67(Checks):
    def test_common_changes_and_bars_against_runs(self):
        seen = {True: 0, False: 0}
        for prime in [2, 3, 5]:
            chance = random.Random(prime)
            for stock in itertools.chain(joined_stock(range(30), prime), woven_stock(range(150), prime, 2, 2)):
                besides = all_beside(stock)
                for mark in {beside.mark for beside in besides}:
                    mine = {beside.stop: beside for beside in besides if beside.mark == mark}
                    if len(mine) == 1 and chance.random() < 0.9:
                        continue
                    stops = chance.sample(sorted(mine), chance.randint(1, len(mine)))
                    stirs = {stop: next(some_stirs(chance, prime, mine[stop].variables, 1)) for stop in stops}
                    change, bar = common_change(stock.bench, mark, stirs), why_no_common(stock.bench, mark, stirs)
                    self.assertEqual(change is None, bar is not None)
                    seen[bar is None] += 1
                    for stop in stops if bar is None else []:
                        self.assertTrue(is_change_for(stock.bench, mark, stop, stirs[stop], change))
                        self.assertTrue(is_common_change(stock.bench, mark, stirs, change))
                    if bar is not None:
                        self.assertTrue(is_why_no_common(stock.bench, mark, stirs, bar))
                        self.assertTrue(self.bar_holds(mine, stirs, bar))
                    self.same_for_one(stock.bench, mark, stirs)
        self.assertGreater(min(seen.values()), 10)

    def bar_holds(self, mine, stirs, bar):
        prime = list(mine.values())[0].prime
        total, due = [0] * len(list(mine.values())[0].holders), 0
        for stop, going_on, position, factor in bar:
            shown, theirs = mine[stop].hangs(going_on)[position]
            total = [(a + factor * b) % prime for a, b in zip(total, theirs)]
            due += factor * sum(n * stirs[stop].get(name, 0) for name, n in zip(mine[stop].variables, shown))
        return not any(total) and due % prime == 1

    def same_for_one(self, bench, mark, stirs):
        for stop, stir in stirs.items():
            self.assertEqual(common_change(bench, mark, {stop: stir}), change_for(bench, mark, stop, stir))

    def test_together_and_not(self):
        bench = joined(2)
        p, r = ("p",), ("r",)
        self.assertEqual(common_change(bench, M, {p: {"x": 1}, r: {"y": 2}}), {"#0": 1})
        self.assertEqual(common_change(bench, M, {p: {}, r: {"y": 3, "x": 1}}), {})
        self.assertTrue(is_common_change(bench, M, {p: {"x": 1}, r: {"y": 2}}, {"#0": 1, "#1": 4}))
        self.assertFalse(is_common_change(bench, M, {p: {"x": 1}, r: {"y": 2}}, {"#0": 2}))
        self.assertIsNone(common_change(bench, M, {p: {"x": 1}, r: {"x": 2}}))
        stirs, bar = {p: {"x": 1}, r: {"x": 2}}, [(p, [], 0, 4), (r, [], 0, 1)]
        self.assertTrue(is_why_no_common(bench, M, stirs, bar))
        self.assertIsNone(why_no_common(bench, M, {p: {"x": 1}}))
        self.assertIsNone(common_change(bench, M, {p: {"x": 1}, r: {}}))
        # One tuple may be told in parts only by other going-on: never one place twice, nor any of another stop.
        twice = [(p, [], 0, 2), (p, [], 0, 2), (r, [], 0, 1)]
        for bent in bent_ones(bar) + odd_objects() + [[], None, twice, bar + [(("e",), [], 0, 1)], bar + [(p, [], 0, 1)]]:
            if bent != bar[::-1]:
                self.assertFalse(is_why_no_common(bench, M, stirs, bent), bent)
        for value in odd_objects() + [{"#0": 1}, {"#0": 2}, {"x": 1}]:
            self.assertFalse(is_common_change(bench, M, stirs, value))
        self.assertTrue(is_why_no_common(bench, M, {r: {"x": 2}, p: {"x": 1}}, bar))
        self.assertFalse(is_why_no_common(bench, M, {r: {"x": 2}}, bar))

    def test_errors_stop_by_stop(self):
        bench, p, r = joined(2), ("p",), ("r",)
        for function, more in [(common_change, []), (why_no_common, []), (is_common_change, [{}]), (is_why_no_common, [[]])]:
            self.refused_all(InvalidSum, [thing for thing in odd_objects() if type(thing) is not dict] + [{}, [(p, {})]], function, bench, M, None, *more, at=2)
            self.refused(UnknownStop, "p", function, bench, M, {"p": {}}, *more)
            self.refused(UnknownStop, ("e",), function, bench, M, {p: {}, ("e",): 7, r: 7}, *more)
            self.refused(InvalidSum, 7, function, bench, M, {p: {}, r: 7, ("e",): {}}, *more)
            self.refused(InvalidSum, {"": 1}, function, bench, M, {p: {"": 1}, ("e",): {}}, *more)
            self.refused(UnknownHolder, "u", function, bench, M, {r: {"z": 1, "u": 2}, p: {"": 1}}, *more)
            self.refused(InvalidSum, {"x": 0}, function, bench, M, {r: {"x": 0}, p: {"u": 1}}, *more)

    def test_results_may_be_changed(self):
        bench, stirs = joined(2), {("p",): {"x": 1}, ("r",): {"x": 2}}
        self.unhurt(why_no_common, bench, M, stirs)
        self.unhurt(common_change, bench, M, {("p",): {"x": 1}})
        self.assertEqual(repr(why_no_common(bench, M, stirs)), repr(why_no_common(bench, M, dict(reversed(stirs.items())))))


class Points68And69(Checks):
    def test_knobs_against_ranks(self):
        needed = 0
        for prime in [2, 3, 5]:
            chance = random.Random(prime)
            for stock in stock_of_all_kinds(40, prime):
                for beside in all_beside(stock):
                    stirs = list(some_stirs(chance, prime, beside.variables, chance.randint(0, 4)))
                    args = (stock.bench, beside.mark, beside.stop)
                    many, found = fewest_knobs(*args, stirs), knobs(*args, stirs)
                    self.assertEqual(len(found), many)
                    self.assertTrue(are_knobs(*args, stirs, found))
                    needed += many > 0
                    hanging = [h for g in beside.goings_on(3) for h in beside.hangs(g)]
                    columns = [[theirs[at] for _, theirs in hanging] for at in range(len(beside.holders))]
                    shows = [[sum(n * stir.get(name, 0) for name, n in zip(beside.variables, mine)) % prime for mine, _ in hanging] for stir in stirs]
                    # Short goings-on alone may need fewer.
                    self.assertLessEqual(rank(prime, columns + shows) - rank(prime, columns), many)
                    for stir in stirs:
                        told = change_with_knobs(*args, stir, found)
                        self.assertTrue(is_change_with_knobs(*args, stir, found, told))
                        self.shows_alike(beside, stir, found, told)
                        fewer = change_with_knobs(*args, stir, found[1:])
                        self.assertTrue(fewer is None or is_change_with_knobs(*args, stir, found[1:], fewer))
        self.assertGreater(needed, 20)

    def shows_alike(self, beside, stir, knobs_told, told):
        change, factors = told
        for mine, theirs in [h for g in beside.goings_on(2) for h in beside.hangs(g)]:
            number = sum(n * change.get(name, 0) for name, n in zip(beside.holders, theirs))
            for knob, factor in zip(knobs_told, factors):
                number += factor * sum(n * knob.get(name, 0) for name, n in zip(beside.variables, mine))
            self.assertEqual((number - sum(n * stir.get(name, 0) for name, n in zip(beside.variables, mine))) % beside.prime, 0)

    def test_none_one_several_and_one_twice(self):
        bench = thin()
        self.assertIsNone(change_with_knobs(bench, M, C, {"x": 1}, []))
        self.assertEqual(change_with_knobs(bench, M, C, {"x": 2, "y": 4}, []), ({"#0": 2}, []))
        self.assertTrue(is_change_with_knobs(bench, M, C, {"y": 1}, [{"x": 1}], ({"#0": 3}, [2])))
        self.assertTrue(is_change_with_knobs(bench, M, C, {"y": 1}, [{"x": 1}, {"x": 1}], ({"#0": 3}, [4, 3])))
        self.assertTrue(is_change_with_knobs(bench, M, C, {"y": 1}, [{"x": 1}, {"y": 1}], ({}, [0, 1])))
        right = ({"#0": 3}, [2])
        for bent in bent_ones(right) + odd_objects() + [None]:
            self.assertFalse(is_change_with_knobs(bench, M, C, {"y": 1}, [{"x": 1}], bent), bent)
        # A knob that shows nothing helps nothing.
        self.assertIsNone(change_with_knobs(bench, M, C, {"x": 1}, [{}, {"x": 1, "y": 2}]))

    def test_least_numbers(self):
        bench = thin()
        for stirs, many in [([], 0), ([{}], 0), ([{"x": 1, "y": 2}], 0), ([{"x": 1}], 1), ([{"x": 1}, {"x": 1}], 1), ([{"y": 1}, {"x": 1}], 1), ([{"x": 3, "y": 1}, {"x": 1, "y": 2}], 0)]:
            self.assertEqual(fewest_knobs(bench, M, C, stirs), many)
            self.assertEqual(len(knobs(bench, M, C, stirs)), many)
        self.assertEqual([are_knobs(bench, M, C, [{"x": 1}], value) for value in [[{"x": 1}], [{"y": 3}], [{"y": 4, "x": 1}], [{"x": 2, "y": 4}], [{}], [], [{"x": 1}] * 2]],
                         [True, True, True, False, False, False, False])
        self.assertEqual([are_knobs(bench, M, C, [], value) for value in [[], [{}], None, {}, ()]], [True, False, False, False, False])
        for value in odd_objects() + [[7], [{"": 1}], [{"z": 1}], [{"x": 0}], [{"x": 5}], ({"x": 1},), {"x": 1}]:
            self.assertFalse(are_knobs(bench, M, C, [{"x": 1}], value), value)

    def test_errors_of_lists(self):
        bench = thin()
        lists = [(change_with_knobs, [{}], []), (is_change_with_knobs, [{}], [None]), (fewest_knobs, [], []), (knobs, [], []), (are_knobs, [], [[]])]
        for function, ahead, behind in lists:
            at = 3 + len(ahead)
            no_lists = [thing for thing in odd_objects() if type(thing) is not list] + [({"x": 1},)]
            self.refused_all(InvalidSum, no_lists, function, bench, M, C, *ahead, None, *behind, at=at)
            for item in [7, None, {"": 1}, {"x": 0}, {"x": 5}, {1: 1}, [("x", 1)]]:
                self.refused(InvalidSum, item, function, bench, M, C, *ahead, [{"x": 1}, item, {"z": 1}, 8], *behind)
            self.refused(UnknownHolder, "y.x", function, bench, M, C, *ahead, [{"x": 1}, {"z": 1, "y.x": 1}, 8], *behind)

    def test_results_may_be_changed(self):
        bench = thin()
        self.unhurt(knobs, bench, M, C, [{"y": 1}, {"x": 1}])
        self.unhurt(change_with_knobs, bench, M, C, {"y": 1}, [{"x": 1}])
        self.assertEqual(list(knobs(bench, M, C, [{"y": 1, "x": 1}])[0]), ["x", "y"])


class Point70(Checks):
    def test_against_runs(self):
        for prime in [2, 3, 65537]:
            chance = random.Random(prime)
            for stock in stock_of_all_kinds(30, prime):
                for beside in all_beside(stock):
                    stir = next(some_stirs(chance, prime, beside.variables, 1))
                    change = next(some_stirs(chance, prime, beside.holders, 1))
                    for inputs, mine, theirs in chance.sample(stock.known, min(6, len(stock.known))):
                        amount = chance.choice([0, 1, prime - 1])
                        self.assertEqual(
                            moved_run(stock.bench, beside.mark, beside.stop, stir, change, amount, inputs),
                            self.moved(beside, stir, change, amount, inputs),
                        )

    def moved(self, beside, stir, change, amount, inputs):
        for many in range(len(inputs) + 1):
            if beside.stock.one.told(inputs[:many]).at(beside.stop) and beside.stock.other.told(inputs[:many]).at(beside.mark):
                raised = [{name: n * amount for name, n in told.items()} for told in (stir, change)]
                return (beside.stock.one.told(inputs, (beside.stop, many, raised[0])).beats, beside.stock.other.told(inputs, (beside.mark, many, raised[1])).beats)
        return None

    def test_passed_several_times_and_not(self):
        program = Program(5, ["x"], [], ([], [("again", "w", ([], [("read", "r", "x"), ("print", "p", {"x": 1}), ("print", "q", {"x": 2})]))]))
        rows = [("pick", [8, 1]), ("read", 0), ("mark", "m", [("p",)]), ("print", 0), ("copy", 1, 0), ("add", 1, 1), ("print", 1), ("go", 0), ("end",)]
        bench = Bench(program, Rows(5, 2, {"main": (0, rows)}))
        args = (bench, M, ("p",), {"x": 1}, {"#0": 1})
        twice = [ON, ("number", 3), ON, ("number", 2)]
        self.assertEqual(moved_run(*args, 2, twice), ([[], [], [0, 0], [], [2, 4]], [[], [], [0, 0], [], [2, 4]]))
        self.assertEqual(moved_run(*args, 0, twice), ([[], [], [3, 1], [], [2, 4]], [[], [], [3, 1], [], [2, 4]]))
        self.assertEqual(moved_run(bench, M, ("p",), {"x": 1}, {}, 1, twice[:2]), ([[], [], [4, 3]], [[], [], [3, 1]]))
        self.assertIsNone(moved_run(*args, 2, []))
        self.assertIsNone(moved_run(*args, 2, [OFF]))
        self.assertIsNone(moved_run(*args, 2, [ON]))
        self.unhurt(moved_run, *args, 2, twice)

    def test_errors(self):
        bench = thin()
        right = (bench, M, C, {"x": 1}, {"#0": 1}, 2, [ONE, ON])
        bad_changes = odd_objects() + [{"": 1}, {"#0": 0}, {"#0": 5}, {"#2": 1}, {"x": 1}, {"#0": True}]
        self.refused_all(InvalidChange, [thing for thing in bad_changes if thing != {}], moved_run, *right, at=4)
        self.refused_all(InvalidNumber, [5, -1, True, None, "1", [], {}, (1,)], moved_run, *right, at=5)
        self.refused_all(InvalidInputs, [None, "", {}, (), 7, ((ONE,))], moved_run, *right, at=6)
        for inputs, at in [([ON], 0), ([ONE, ("choice", 2)], 1), ([("number", 5)], 0), ([ONE, OFF, ON], 2), ([None], 0), ([ONE, None], 1), ([["number", 1]], 0)]:
            self.refused(InvalidInputs, at, moved_run, *right[:6], inputs)


class Errors(Checks):
    def every(self):
        return [
            (change_for, [{}]), (is_change_for, [{}, {}]), (movable_stirs, []), (why_unmoved, [{}]), (is_why_unmoved, [{}, []]),
            (change_with_knobs, [{}, []]), (is_change_with_knobs, [{}, [], None]), (fewest_knobs, [[]]), (knobs, [[]]), (are_knobs, [[], []]),
            (moved_run, [{}, {}, 1, []]),
        ]

    def every_with_stir(self):
        return [(f, more) for f, more in self.every() if more and f not in (fewest_knobs, knobs, are_knobs)]

    def common(self):
        return [(common_change, [{}]), (why_no_common, [{}]), (is_common_change, [{}, {}]), (is_why_no_common, [{}, []])]

    def test_benches_and_marks(self):
        calls = [(f, [None] + more) for f, more in self.every()] + self.common()
        for function, more in calls:
            self.refused_all(InvalidBench, odd_objects() + [thin().rows(), Bench], function, None, M, *more, at=0)
            self.refused_all(UnknownMark, odd_objects() + [("m",), ["m", ()], ("m", ("c",))], function, thin(), None, *more, at=1)
            for name, kind in [("n", NeverPassed), ("s", Stray), ("u", Uneven)]:
                self.refused(kind, (name, ()), function, bad_marks(), (name, ()), *more)

    def test_stops(self):
        for function, more in self.every():
            bad = odd_objects() + [("a",), ("d",), ["c"], "c", ("m", "c")]
            self.refused_all(UnknownStop, bad, function, thin(), M, None, *more, at=2)

    def test_stirs(self):
        for function, more in self.every_with_stir():
            bad = [thing for thing in odd_objects() if type(thing) is not dict] + [{"": 1}, {"x": 0}, {"x": 5}, {"x": True}, {1: 1}]
            self.refused_all(InvalidSum, bad, function, thin(), M, C, *more, at=3)
            self.refused(UnknownHolder, "#0", function, thin(), M, C, {"x": 1, "z": 1, "#0": 2}, *more[1:])

    def test_names(self):
        bench = thin()
        named = dict(bench=bench, mark=M, stop=C)
        self.same_by_names(change_for, **named, stir={"x": 1, "y": 2})
        self.same_by_names(is_change_for, **named, stir={"x": 1, "y": 2}, value={"#0": 1})
        self.same_by_names(movable_stirs, **named)
        self.same_by_names(why_unmoved, **named, stir={"x": 1})
        self.same_by_names(is_why_unmoved, **named, stir={"x": 1}, value=[([], 0, 1), ([ON], 1, 1)])
        self.same_by_names(common_change, bench=bench, mark=M, stirs={C: {"x": 1, "y": 2}})
        self.same_by_names(why_no_common, bench=bench, mark=M, stirs={C: {"x": 1}})
        self.same_by_names(is_common_change, bench=bench, mark=M, stirs={C: {"x": 1, "y": 2}}, value={"#0": 1})
        self.same_by_names(is_why_no_common, bench=bench, mark=M, stirs={C: {"x": 1}}, value=[(C, [], 0, 1), (C, [ON], 1, 1)])
        self.same_by_names(change_with_knobs, **named, stir={"y": 1}, knobs_told=[{"x": 1}])
        self.same_by_names(fewest_knobs, **named, stirs=[{"x": 1}])
        self.same_by_names(knobs, **named, stirs=[{"x": 1}])
        self.same_by_names(are_knobs, **named, stirs=[{"x": 1}], value=[{"y": 1}])
        named.update(stir={"x": 1}, change={"#0": 1}, amount=2, inputs=[ONE])
        self.assertEqual(moved_run(**dict(reversed(named.items()))), moved_run(*named.values()))

    def test_a_bench_answers_the_same_whatever_it_was_asked(self):
        def answers(bench):
            return [movable_stirs(bench, M, C), why_unmoved(bench, M, C, {"x": 1}), knobs(bench, M, C, [{"y": 1}]), change_for(bench, M, C, {"x": 1, "y": 2})]
        self.assertEqual(answers(thin()), list(reversed([f(bench, M, C, *more) for bench in [thin()] for f, *more in [
            (change_for, {"x": 1, "y": 2}), (knobs, [{"y": 1}]), (why_unmoved, {"x": 1}), (movable_stirs,)]])))


if __name__ == "__main__":
    unittest.main()
