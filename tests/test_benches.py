"""Benches: [55], [56], [57], [58] and [59]."""

import random

from tests.checks import Checks, bent_ones
from tests.odd import odd_objects
from tests.stock import chance_stock, joined_stock
from tests.test_alike import bad_rows
from tests.test_spans import NOUGHT, ON, ONE, ROUND, summing, summing_rows
from truestops.benches import (
    Bench,
    is_where_point,
    is_where_rule,
    mark_word,
    marks,
    out_of_order,
    stops_of,
    where_point,
    where_rule,
)
from truestops.errors import (
    InvalidBench,
    InvalidProgram,
    InvalidRows,
    NeverPassed,
    NotAlike,
    Stray,
    Uneven,
    UnknownMark,
    UnknownStop,
    UnlikePrimes,
)
from truestops.programs import Program
from truestops.rows import Rows, marks_of

ARMS = [([], [("pass", "a")]), ([], [("set", "b", "x", {"x": 2})])]
JOINED = ("m", ())


def doubled(prime=5):
    arms = ARMS if prime > 2 else [ARMS[0], ([], [("set", "b", "x", {})])]
    return Program(prime, ["x"], [], ([], [("read", "r", "x"), ("pick", "k", arms), ("print", "e", {"x": 1})]))


def joined_rows(row, stops, prime=5):
    rows = [("read", 0), ("pick", [2, 4]), row, ("go", 5), ("times", 0, 2 % prime), ("mark", "m", stops), ("print", 0), ("end",)]
    return Rows(prime, 2, {"main": (0, rows)})


def told_bench(prime=5):
    return Bench(doubled(prime), joined_rows(("set", 1, 1), [("a",), ("b",)], prime))


def mute_bench(prime=5):
    return Bench(doubled(prime), joined_rows(("go", 5), [("a",), ("b",)], prime))


def bad_marks():
    """A bench with a mark that is never passed, a stray and an uneven one, and true ones with one and two stops."""
    steps = [("read", "a", "x"), ("print", "b", {"x": 1}), ("pass", "c"), ("again", "d", ([], [("pass", "e")]))]
    rows = [("mark", "t", [("a",)]), ("read", 0), ("mark", "s", [("a",)]), ("mark", "u", [("c",)]), ("print", 0), ("mark", "v", [("c",), ("e",)]), ("pick", [9, 7]),
            ("mark", "w", [("c",), ("e",)]), ("go", 6), ("end",), ("mark", "n", [("c",)]), ("end",)]
    return Bench(Program(5, ["x"], [], ([], steps)), Rows(5, 2, {"main": (0, rows)}))


def every_function():
    """All functions that begin with a bench, a mark and a stop, with what comes behind these."""
    return [(where_rule, []), (is_where_rule, [None]), (where_point, []), (is_where_point, [None])]


class Point55(Checks):
    def test_it_returns_both(self):
        program, rows = summing(), summing_rows()
        bench = Bench(program, rows)
        self.assertEqual((bench.program(), bench.rows()), (program, rows))
        self.assertIs(type(bench.program()), Program)
        self.assertEqual(Bench(rows=rows, program=program), bench)

    def test_wrong_ones(self):
        odd = [thing for thing in odd_objects() if not isinstance(thing, Program)]
        self.refused_all(InvalidProgram, odd + [summing_rows()], Bench, None, summing_rows(), at=0)
        self.refused_all(InvalidRows, odd_objects() + [summing()], Bench, summing(), None, at=1)
        self.refused(InvalidProgram, None, Bench, None, None)
        other = summing_rows(7)
        self.refused(UnlikePrimes, other, Bench, summing(), other)
        self.refused(UnlikePrimes, other, Bench, doubled(), other)

    def test_unlike_ones(self):
        self.refused(NotAlike, [ONE, ROUND, ROUND, ON], Bench, summing(), bad_rows())
        self.refused(NotAlike, [], Bench, doubled(), Rows(5, 1, {"main": (0, [("end",)])}))
        with self.assertRaises(NotAlike) as caught:
            Bench(summing(), bad_rows())
        caught.exception.value.append("spoilt")
        self.refused(NotAlike, [ONE, ROUND, ROUND, ON], Bench, summing(), bad_rows())

    def test_equality(self):
        bench = told_bench()
        self.assertTrue(bench == told_bench())
        self.assertFalse(bench != told_bench())
        other = Program(5, ["x"], [], ([], [("read", "r", "x"), ("pick", "k", ARMS), ("print", "f", {"x": 1})]))
        for thing in [mute_bench(), Bench(other, bench.rows()), Bench(doubled(), joined_rows(("set", 1, 2), [("a",), ("b",)]))] + odd_objects() + [bench.rows(), bench.program()]:
            self.assertFalse(bench == thing)
            self.assertTrue(bench != thing)

    def test_no_bench(self):
        calls = [(marks, []), (stops_of, [None]), (mark_word, [None]), (out_of_order, [])] + [(f, [None, None] + more) for f, more in every_function()]
        for function, more in calls:
            self.refused_all(InvalidBench, odd_objects() + [summing(), summing_rows(), Bench], function, None, *more, at=0)

    def test_no_mark(self):
        bad = odd_objects() + [("m",), ["m", ()], ("m", []), ("m", ("c",)), ("k", ()), ("m", (), ())]
        for function, more in [(stops_of, []), (mark_word, [])] + [(f, [None] + more) for f, more in every_function()]:
            self.refused_all(UnknownMark, bad, function, told_bench(), None, *more, at=1)


class Point56(Checks):
    def test_marks_and_stops(self):
        for stock in chance_stock(range(60), 2, 0):
            rows = stock.bench.rows()
            self.assertEqual(marks(stock.bench), [mark for mark, _ in marks_of(rows)])
            for mark, stops in marks_of(rows):
                self.assertEqual((stops_of(stock.bench, mark), stops), (stops, sorted(stops)))

    def test_marks_that_no_run_passes_and_with_paths(self):
        bench = bad_marks()
        self.assertEqual(marks(bench), [(name, ()) for name in "nstuvw"])
        self.assertEqual(stops_of(bench, ("v", ())), [("c",), ("e",)])
        unit = (0, [("mark", "m", [("p", "q"), ("s",)]), ("back",)])
        called = Rows(5, 1, {"main": (0, [("call", "one", "d"), ("call", "one", "c"), ("end",)]), "one": unit})
        bench = Bench(Program(5, [], [], ([], [])), called)
        self.assertEqual(marks(bench), [("m", ("c",)), ("m", ("d",))])
        self.assertEqual(stops_of(bench, ("m", ("d",))), [("d", "p", "q"), ("d", "s")])


class Point57(Checks):
    def test_each_word(self):
        bench = bad_marks()
        told = {mark[0]: mark_word(bench, mark) for mark in marks(bench)}
        self.assertEqual(told, {
            "n": ("never", None), "s": ("stray", [NOUGHT]), "t": ("true", []), "u": ("uneven", [NOUGHT]), "v": ("true", [NOUGHT]),
            "w": ("true", [NOUGHT, ROUND]),
        })

    def test_several_stops_in_one_beat_are_stray(self):
        program = Program(5, [], [], ([], [("pass", "a"), ("pass", "b")]))
        for stops, word in [([("a",), ("b",)], "stray"), ([("b",), ("z",)], "true"), ([("z",)], "stray")]:
            self.assertEqual(mark_word(Bench(program, Rows(5, 1, {"main": (0, [("mark", "m", stops), ("end",)])})), JOINED), (word, []))

    def test_stray_comes_ahead_of_uneven(self):
        steps = [("print", "b", {}), ("pass", "c"), ("again", "d", ([], []))]
        rows = [("set", 0, 0), ("mark", "m", [("c",)]), ("print", 0), ("pick", [8, 4]), ("go", 5), ("mark", "o", [("c",)]), ("go", 3), ("go", 3), ("end",)]
        bench = Bench(Program(5, [], [], ([], steps)), Rows(5, 2, {"main": (0, rows)}))
        self.assertEqual([mark_word(bench, JOINED), mark_word(bench, ("o", ()))], [("uneven", []), ("stray", [ROUND])])
        again = [("again", "d", ([], [("print", "e", {})]))]
        loop = [("set", 0, 0), ("mark", "m", [("c",)]), ("print", 0), ("pick", [4, 1]), ("end",)]
        bench = Bench(Program(5, [], [], ([], steps[:2] + again)), Rows(5, 2, {"main": (0, loop)}))
        self.assertEqual(mark_word(bench, JOINED), ("stray", [ROUND]))

    def test_against_all_inputs_of_few_letters(self):
        words = {"never": 0, "stray": 0, "uneven": 0, "true": 0}
        for prime in [2, 3]:
            for stock in chance_stock(range(260), prime, 6, 1):
                for mark in marks(stock.bench):
                    word, inputs = mark_word(stock.bench, mark)
                    words[word] += 1
                    if inputs is None or len(inputs) <= 6 and inputs in [known for known, _, _ in stock.known]:
                        self.assertEqual((word, inputs), stock.word(mark))
                    self.assertFalse(any(n for kind, n in inputs or [] if kind == "number"))
        self.assertGreater(min(words[word] for word in ["stray", "uneven", "true"]), 20)

    def test_the_primes(self):
        for prime in [2, 3, 5, 65537]:
            self.assertEqual(mark_word(told_bench(prime), JOINED), ("true", [NOUGHT, ON]))
            self.assertEqual(mark_word(Bench(doubled(prime), joined_rows(("go", 5), [("a",)], prime)), JOINED), ("stray", [NOUGHT, ROUND]))


class Point58(Checks):
    def order_bench(self, rows):
        return Bench(Program(5, [], [], ([], [("pass", "a"), ("pass", "b"), ("pass", "c")])), Rows(5, 1, {"main": (0, rows + [("end",)])}))

    def test_told_ones(self):
        one, two, three, four = [("mark", name, [(stop,)]) for name, stop in [("m", "a"), ("n", "b"), ("o", "c"), ("p", "a")]]
        self.assertIsNone(out_of_order(self.order_bench([one, two, three])))
        self.assertIsNone(out_of_order(self.order_bench([one, four, two])))
        self.assertIsNone(out_of_order(self.order_bench([four, one])))
        self.assertEqual(out_of_order(self.order_bench([one, three, two])), ([], ("o", ()), ("n", ())))
        self.assertEqual(out_of_order(self.order_bench([two, three, one, four])), ([], ("n", ()), ("m", ())))
        self.assertEqual(out_of_order(self.order_bench([three, four, two, one])), ([], ("o", ()), ("p", ())))
        stray = ("mark", "z", [("a",), ("c",)])
        self.assertIsNone(out_of_order(self.order_bench([two, three, stray])))

    def test_the_least_inputs(self):
        steps = [("again", "w", ([], [("pass", "a"), ("pick", "p", [([], [("pass", "b"), ("pass", "c")]), ([], [])])]))]
        rows = [("pick", [7, 1]), ("mark", "x", [("a",)]), ("pick", [3, 0]), ("mark", "y", [("c",)]), ("mark", "v", [("b",)]), ("go", 0), ("end",), ("end",)]
        self.assertEqual(out_of_order(Bench(Program(5, [], [], ([], steps)), Rows(5, 1, {"main": (0, rows)}))), ([ROUND, ON], ("y", ()), ("v", ())))

    def test_against_all_inputs_of_few_letters(self):
        told = {True: 0, False: 0}
        for stock in chance_stock(range(300), 2, 6, 1):
            true = [mark for mark in marks(stock.bench) if mark_word(stock.bench, mark)[0] == "true"]
            found = out_of_order(stock.bench)
            told[found is None] += 1
            self.assertIn(found, [self.first_broken(stock, true), found if found and found[0] not in [i for i, _, _ in stock.known] else None])
        self.assertGreater(min(told.values()), 1)

    def first_broken(self, stock, true):
        for inputs, mine, theirs in stock.known:
            passed = [stop for stop, _, _ in mine.passed]
            ahead = [(mark, passed.index(stop)) for mark, _, _ in theirs.passed if mark in true for stop in stock.stops_of(mark) if stop in passed]
            for at, (mark, place) in enumerate(ahead):
                for later, other in ahead[at + 1:]:
                    if other < place:
                        return (inputs, mark, later)
        return None


class Point59(Checks):
    def test_marks_that_are_not_true(self):
        bench = bad_marks()
        for function, more in every_function():
            for stop in [("c",), None, ("z",)]:
                self.refused(NeverPassed, ("n", ()), function, bench, ("n", ()), stop, *more)
                self.refused(Stray, ("s", ()), function, bench, ("s", ()), stop, *more)
                self.refused(Uneven, ("u", ()), function, bench, ("u", ()), stop, *more)

    def test_stops_that_are_none_of_the_mark_or_never_passed_with_it(self):
        bench = bad_marks()
        for function, more in every_function():
            self.refused_all(UnknownStop, odd_objects() + [("a",), ("c",), "e", ["e"], ("e", "e")], function, bench, ("w", ()), None, *more, at=2)
            self.refused_all(UnknownStop, odd_objects() + [("e",)], function, told_bench(), JOINED, None, *more, at=2)

    def test_rules(self):
        bench = told_bench()
        self.assertIs(is_where_rule(bench, JOINED, ("a",), {"#1": 1}), True)
        self.assertIs(is_where_rule(bench, JOINED, ("b",), {"": 1, "#1": 4}), True)
        for bad in odd_objects() + [{"#1": 2}, {"#1": 1, "": 1}, {"#0": 1}, {"#1": 1, "#0": 1}, {"#1": 1, "@0.0": 1}, {"#1": 1, "x": 1}, {"#1": 1, "#0": 0},
                                    {"#1": True}, [("#1", 1)], {"#1": 6}, {"": 1, "#1": 4}, ("#1", 1)]:
            self.assertIs(is_where_rule(bench, JOINED, ("a",), bad), False, bad)
        alone = Bench(doubled(), Rows(5, 1, {"main": (0, [("read", 0), ("pick", [2, 3]), ("go", 4), ("times", 0, 2), ("mark", "m", [("e",)]), ("print", 0), ("end",)])}))
        self.assertIs(is_where_rule(alone, JOINED, ("e",), {"": 1}), True)
        self.assertIs(is_where_rule(alone, JOINED, ("e",), {}), False)
        self.assertIs(is_where_rule(alone, JOINED, ("e",), where_rule(alone, JOINED, ("e",))), True)
        self.assertIsNone(where_point(alone, JOINED, ("e",)))

    def test_points(self):
        bench = mute_bench()
        point = where_point(bench, JOINED, ("a",))
        self.assertIs(is_where_point(bench, JOINED, ("a",), point), True)
        self.assertIs(is_where_point(bench, JOINED, ("b",), point[::-1]), True)
        self.assertIs(is_where_point(bench, JOINED, ("b",), point), False)
        self.assertIs(is_where_point(told_bench(), JOINED, ("a",), point), False)
        n = lambda k: ("number", k)
        good = ([([n(4), ON], 1)], [([n(2), ROUND], 1)])
        more = ([([n(1), ON], 2), ([n(3), ON], 3), ([n(1), ON], 1), ([n(2), ON], 0)], [([n(1), ROUND], 1)])
        for value in [good, more, ([([n(4), ON], 1)] * 6, good[1])]:
            self.assertIs(is_where_point(bench, JOINED, ("a",), value), True)
        for bent in bent_ones(good) + odd_objects():
            self.assertIs(is_where_point(bench, JOINED, ("a",), bent), repr(bent) in [repr(good)], bent)
        for bad in [([([n(4), ON], 1)], [([n(4), ROUND], 1)]), ([([n(4), ON], 2)], [([n(2), ROUND], 2)]), ([], []), good[::-1], (good[0], good[0]),
                    ([([n(4)], 1)], good[1]), ([([n(4), ON, ON], 1)], good[1]), ([((n(4), ON), 1)], good[1]), ([([n(4), ON], 6)], good[1]), ([([n(4), ON], True)], good[1])]:
            self.assertIs(is_where_point(bench, JOINED, ("a",), bad), False, bad)

    def test_just_one_of_the_two(self):
        told = {True: 0, False: 0}
        for prime in [2, 3]:
            for stock in joined_stock(range(80), prime):
                self.look_at(stock, JOINED, told)
        self.assertGreater(min(told.values()), 40)

    def look_at(self, stock, mark, told):
        passed = sorted({stops[0][0] for _, stops, _ in stock.passings(mark)})
        for stop in passed:
            rule, point = where_rule(stock.bench, mark, stop), where_point(stock.bench, mark, stop)
            self.assertNotEqual(rule is None, point is None)
            told[rule is None] += 1
            if point is not None:
                self.assertIs(is_where_point(stock.bench, mark, stop, point), True)
                continue
            self.assertIs(is_where_rule(stock.bench, mark, stop, rule), True)
            for other in passed:
                for inputs, mine, theirs in stock.known:
                    if theirs.at(mark) and mine.at(other):
                        state = theirs.at(mark)[0]
                        self.assertEqual(sum(n * (state[k] if k else 1) for k, n in rule.items()) % stock.prime, int(other == stop))

    def test_the_primes(self):
        for prime in [2, 3, 5, 65537]:
            self.assertIs(is_where_rule(told_bench(prime), JOINED, ("a",), where_rule(told_bench(prime), JOINED, ("a",))), True)
            bench = mute_bench(prime)
            self.assertEqual(where_rule(bench, JOINED, ("a",)) is None, where_point(bench, JOINED, ("a",)) is not None)
            point = where_point(bench, JOINED, ("b",))
            self.assertIs(is_where_point(bench, JOINED, ("b",), point), point is not None)


class Results(Checks):
    def test_results_may_be_changed_and_names(self):
        for bench in [told_bench(), mute_bench()]:
            self.unhurt(marks, bench)
            self.unhurt(out_of_order, bench)
            self.same_by_names(marks, bench=bench)
            self.same_by_names(out_of_order, bench=bench)
            for function in [stops_of, mark_word]:
                self.unhurt(function, bench, JOINED)
                self.same_by_names(function, bench=bench, mark=JOINED)
            for function in [where_rule, where_point]:
                self.unhurt(function, bench, JOINED, ("a",))
                self.same_by_names(function, bench=bench, mark=JOINED, stop=("a",))
            for function, value in [(is_where_rule, where_rule(bench, JOINED, ("a",))), (is_where_point, where_point(bench, JOINED, ("a",)))]:
                self.unhurt(function, bench, JOINED, ("a",), value)
                self.same_by_names(function, bench=bench, mark=JOINED, stop=("a",), value=value)

    def test_the_same_whatever_was_asked_before(self):
        calls = [(marks, ()), (stops_of, (JOINED,)), (mark_word, (JOINED,)), (out_of_order, ()), (where_rule, (JOINED, ("a",))), (where_point, (JOINED, ("b",))),
                 (where_rule, (JOINED, ("b",))), (where_point, (JOINED, ("a",)))]
        for fresh in [told_bench, mute_bench]:
            told = [repr(function(fresh(), *more)) for function, more in calls]
            for seed in range(10):
                bench, order = fresh(), list(range(len(calls)))
                random.Random(seed).shuffle(order)
                for at in order + order:
                    self.assertEqual(repr(calls[at][0](bench, *calls[at][1])), told[at])
