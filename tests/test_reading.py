"""Reading and notes: [60], [61], [62], [63] and [64]."""

import itertools
import random

from tests.checks import Checks, bent_ones
from tests.odd import odd_objects
from tests.stock import chance_stock, joined_stock
from tests.test_benches import JOINED, bad_marks, told_bench
from tests.test_spans import NOUGHT, ONE, summing_rows
from truestops.benches import Bench, mark_word, marks
from truestops.errors import InvalidBench, InvalidSum, NeverPassed, Stray, Uneven, UnknownHolder, UnknownMark, UnknownStop
from truestops.numbers import reduced, solved
from truestops.programs import Program
from truestops.reading import (
    are_notes,
    are_past_runs,
    are_read_runs,
    is_past_rule,
    is_read_rule,
    notes,
    past_rule,
    past_runs,
    read_rule,
    read_runs,
    readable,
)
from truestops.rows import Rows

EARLY, LATE = ("k", ()), ("m", ())


def tale(prime=5):
    steps = [("read", "a", "x"), ("read", "b", "y"), ("print", "c", {"x": 1, "y": 1})]
    rows = [("read", 0), ("mark", "k", [("b",)]), ("read", 1), ("add", 0, 1), ("set", 1, 0), ("mark", "m", [("c",)]), ("print", 0), ("end",)]
    return Bench(Program(prime, ["x", "y"], [], ([], steps)), Rows(prime, 2, {"main": (0, rows)}))


def looped(prime=5):
    """Each round reads a number and adds it up; the rows keep the one before, and at the mark `o` the sum alone."""
    steps = [("again", "w", ([], [("read", "a", "x"), ("set", "b", "y", {"y": 1, "x": 1}), ("pass", "c")])), ("print", "o", {"y": 1})]
    rows = [("pick", [8, 1]), ("copy", 2, 0), ("read", 0), ("add", 1, 0), ("mark", "m", [("c",)]), ("go", 0), ("go", 0), ("go", 0), ("mark", "o", [("o",)]),
            ("print", 1), ("end",)]
    return Bench(Program(prime, ["x", "y"], [], ([], steps)), Rows(prime, 3, {"main": (0, rows)}))


def seats(stock):
    """The true marks of a stock's bench, with each stop that is passed there by few letters."""
    for mark in marks(stock.bench):
        if mark_word(stock.bench, mark)[0] == "true":
            for stop in sorted({passed[0][0] for _, passed, _ in stock.passings(mark)}):
                yield mark, stop


class Against(Checks):
    def each(self, seeds):
        """Each bench by chance with each true mark and stop, the holders there and the runs of few letters."""
        for prime in [2, 3]:
            stocks = itertools.chain(chance_stock(seeds, prime, 5 if prime == 2 else 4), joined_stock(seeds[:40], prime))
            for stock in stocks:
                for mark, stop in seats(stock):
                    variables = sorted(next(m.at(stop)[0] for _, m, t in stock.known if m.at(stop) and t.at(mark)))
                    holders = sorted(next(t.at(mark)[0] for _, m, t in stock.known if m.at(stop) and t.at(mark)))
                    yield stock, mark, stop, variables, holders

    def right_rule(self, prime, rule, holders, wanted, variables, runs):
        """Whether a rule tells a sum in all these runs, by plain reckoning."""
        def worth(told, keys, numbers):
            return sum(n * (numbers[keys.index(k)] if k else 1) for k, n in told.items()) % prime
        return all(worth(rule, holders, there) == worth(wanted, variables, here) for _, here, there in runs)

    def right_paper(self, prime, paper, holders, wanted, variables, run_of):
        """Whether a list of runs with factors is a paper, by plain reckoning; `run_of` finds a run by its inputs."""
        if not paper or len(paper) > len(holders) + 2 or len({repr(inputs) for inputs, _ in paper}) != len(paper):
            return False
        runs = [run_of(inputs) for inputs, _ in paper]
        if None in runs or not all(0 < factor < prime for _, factor in paper):
            return False
        total = [sum(f * n for (_, f), n in zip(paper, column)) % prime for column in zip(*[there + [1] for _, there in runs])]
        vector = [wanted.get(k, 0) for k in variables + [""]]
        told = sum(f * a * b for (_, f), (here, _) in zip(paper, runs) for a, b in zip(vector, here + [1])) % prime
        return not any(total) and told != 0

    def sums(self, chance, prime, variables, many):
        for _ in range(many):
            names = chance.sample(variables + [""], chance.randint(0, len(variables) + 1))
            yield {name: chance.randrange(1, prime) for name in names}


class Point60And61(Against):
    def test_just_one_of_the_two(self):
        told, chance = {True: 0, False: 0}, random.Random(60)
        for stock, mark, stop, variables, holders in self.each(range(120)):
            runs = stock.runs(mark, stop)
            for wanted in self.sums(chance, stock.prime, variables, 3):
                rule, paper = read_rule(stock.bench, mark, stop, wanted), read_runs(stock.bench, mark, stop, wanted)
                self.assertNotEqual(rule is None, paper is None)
                told[rule is None] += 1
                if rule is not None:
                    self.assertTrue(self.right_rule(stock.prime, rule, holders, wanted, variables, runs))
                    self.assertIs(is_read_rule(stock.bench, mark, stop, wanted, rule), True)
                else:
                    self.assertTrue(self.right_paper(stock.prime, paper, holders, wanted, variables, lambda i: self.run_of(stock, mark, stop, i)))
                    self.assertIs(are_read_runs(stock.bench, mark, stop, wanted, paper), True)
                    self.assertIs(are_read_runs(stock.bench, mark, stop, wanted, paper[::-1]), True)
        self.assertGreater(min(told.values()), 80)

    def run_of(self, stock, mark, stop, inputs):
        mine, theirs = stock.one.told(inputs), stock.other.told(inputs)
        if mine is None or not mine.at(stop) or not theirs.at(mark):
            return None
        return list(mine.at(stop)[0].values()), list(theirs.at(mark)[0].values())

    def test_judges_of_rules(self):
        chance = random.Random(61)
        for stock, mark, stop, variables, holders in self.each(range(40)):
            runs = stock.runs(mark, stop)
            for wanted in self.sums(chance, stock.prime, variables, 2):
                for value in self.sums(chance, stock.prime, holders, 4):
                    # Few letters may not refute a wrong rule; a right one they never do.
                    if is_read_rule(stock.bench, mark, stop, wanted, value):
                        self.assertTrue(self.right_rule(stock.prime, value, holders, wanted, variables, runs))
                    elif len(stock.known[-1][0]) < 4:
                        self.assertFalse(self.right_rule(stock.prime, value, holders, wanted, variables, runs))

    def test_told_rules(self):
        desk = tale()
        for value in [{"#0": 2, "": 3}, {"": 3, "#0": 2}]:
            self.assertIs(is_read_rule(desk, EARLY, ("b",), {"x": 2, "": 3}, value), True)
        self.assertEqual(read_rule(desk, EARLY, ("b",), {}), {})
        self.assertIs(is_read_rule(desk, EARLY, ("b",), {"y": 3}, {}), True)
        self.assertIs(is_read_rule(desk, EARLY, ("b",), {"y": 3}, {"#1": 1}), True)
        for bad in odd_objects() + [{"#0": 3}, {"#0": 2, "": 3, "x": 1}, {"#0": 2, "": 3, "#1": 0}, {"#0": 2, "": 3, "@0.0": 1}, [("#0", 2), ("", 3)], {"#0": 7, "": 3},
                                    {"#0": 2, "": 8}, {"#0": 2, "": True}]:
            self.assertIs(is_read_rule(desk, EARLY, ("b",), {"x": 2, "": 3}, bad), False, bad)

    def test_bent_papers(self):
        desk = tale()
        paper = [([NOUGHT, ONE], 4), ([ONE, NOUGHT], 1)]
        right = [paper, paper[::-1], [([NOUGHT, ONE], 3), ([ONE, NOUGHT], 2)], [([("number", 3), ("number", 2)], 1), ([("number", 4), ONE], 4)],
                 [([NOUGHT, ONE], 1), ([ONE, ONE], 4), ([("number", 2), ONE], 1), ([("number", 3), NOUGHT], 4)]]
        for value in right[:4]:
            self.assertIs(are_read_runs(desk, LATE, ("c",), {"x": 1}, value), True, value)
        for bent in bent_ones(paper) + odd_objects() + [[], [([NOUGHT, ONE], 4)] * 2, [([ONE, NOUGHT], 1)], [([ONE, NOUGHT], 1), ([NOUGHT], 4)],
                                                        [([ONE, NOUGHT], 1), ([NOUGHT, ("number", 2)], 4)], [([ONE, NOUGHT], 6), ([NOUGHT, ONE], 4)], [([ONE, NOUGHT], 2), ([NOUGHT, ONE], 4)],
                                                        [([ONE, NOUGHT], 1), ([NOUGHT, ONE], 4), ([ONE, ONE], 0)], [([ONE, NOUGHT], 1), ((NOUGHT, ONE), 4)]]:
            self.assertIs(are_read_runs(desk, LATE, ("c",), {"x": 1}, bent), repr(bent) in [repr(value) for value in right], bent)
        self.assertIs(are_read_runs(desk, LATE, ("c",), {"x": 1, "y": 1}, paper), False)
        # The boxes add up to 0 here, but the factors do not; and the other way round.
        for bad in [[([ONE, ("number", 4)], 1)], [([ONE, ("number", 4)], 1), ([("number", 2), ("number", 3)], 1)], [([ONE, ONE], 1), ([NOUGHT, ONE], 4)]]:
            self.assertIs(are_read_runs(desk, LATE, ("c",), {"x": 1}, bad), False)

    def test_runs_to_the_mark_at_another_stop(self):
        arms = [([], [("pass", "p")]), ([], [("set", "q", "x", {}), ("pass", "r")])]
        program = Program(5, ["x"], [], ([], [("read", "a", "x"), ("pick", "k", arms), ("print", "e", {})]))
        rows = [("read", 0), ("set", 0, 0), ("pick", [3, 3]), ("mark", "m", [("p",), ("r",)]), ("print", 0), ("end",)]
        bench, mark = Bench(program, Rows(5, 1, {"main": (0, rows)})), ("m", ())
        paper = [([("number", 1), ("choice", 0)], 1), ([("number", 0), ("choice", 0)], 4)]
        self.assertIs(are_read_runs(bench, mark, ("p",), {"x": 1}, paper), True)
        self.assertIs(are_read_runs(bench, mark, ("r",), {"x": 1}, paper), False)
        self.assertIs(are_read_runs(bench, mark, ("p",), {"x": 1}, [paper[0], ([("number", 0), ("choice", 1)], 4)]), False)

    def test_at_most_two_more_than_holders(self):
        desk = tale()
        # Two boxes: four runs may stand in a paper, five may not, though they add up as well.
        four = [([NOUGHT, ONE], 4), ([ONE, NOUGHT], 1), ([ONE, ONE], 4), ([("number", 2), NOUGHT], 1)]
        self.assertIs(are_read_runs(desk, LATE, ("c",), {"x": 1}, four), True)
        five = [([NOUGHT, ONE], 1), ([ONE, NOUGHT], 1), ([ONE, ONE], 1), ([("number", 2), NOUGHT], 1), ([("number", 3), ("number", 1)], 1)]
        total = [sum(i[0][1] + i[1][1] for i, _ in five) % 5, len(five) % 5, sum(i[0][1] for i, _ in five) % 5]
        self.assertEqual((total[0], total[1], total[2] != 0), (0, 0, True))
        self.assertIs(are_read_runs(desk, LATE, ("c",), {"x": 1}, five), False)

    def test_holders_may_tell_it_otherwise_than_by_sums(self):
        arms = [([], []), ([], [("set", "s", "x", {"": 1})]), ([], [("set", "t", "x", {"": 3})])]
        program = Program(5, ["x"], [], ([], [("pick", "p", arms), ("pass", "q")]))
        rows = Rows(5, 1, {"main": (0, [("pick", [5, 1, 3]), ("set", 0, 1), ("go", 5), ("set", 0, 2), ("go", 5), ("mark", "m", [("q",)]), ("end",)])})
        bench = Bench(program, rows)
        self.assertIsNone(read_rule(bench, LATE, ("q",), {"x": 1}))
        runs = [([("choice", 0)], 1), ([("choice", 1)], 3), ([("choice", 2)], 1)]
        self.assertIs(are_read_runs(bench, LATE, ("q",), {"x": 1}, runs), True)

    def test_the_primes(self):
        for prime in [2, 3, 5, 65537]:
            desk = tale(prime)
            self.assertEqual(read_rule(desk, LATE, ("c",), {"x": 1, "y": 1}), {"#0": 1})
            self.assertIsNone(read_rule(desk, LATE, ("c",), {"x": 1}))
            self.assertIs(are_read_runs(desk, LATE, ("c",), {"x": 1}, read_runs(desk, LATE, ("c",), {"x": 1})), True)


EVERY = [(read_rule, [{}]), (is_read_rule, [{}, None]), (read_runs, [{}]), (are_read_runs, [{}, None]), (readable, []), (notes, [[]]), (are_notes, [[], None])]
PAST = [(past_rule, []), (is_past_rule, [None]), (past_runs, []), (are_past_runs, [None])]


class Wrong(Checks):
    def test_benches_marks_and_stops(self):
        every = EVERY + [(function, [LATE, {}] + more) for function, more in PAST]
        for function, more in every:
            self.refused_all(InvalidBench, odd_objects() + [summing_rows()], function, None, LATE, ("c",), *more, at=0)
            self.refused_all(UnknownMark, odd_objects() + [("m",), ["m", ()], ("q", ()), ("m", ("c",))], function, tale(), None, ("c",), *more, at=1)
            self.refused_all(UnknownStop, odd_objects() + [("b",), ["c"], ("c", "c"), ("z",)], function, tale(), LATE, None, *more, at=2)
            for kind, name in [(NeverPassed, "n"), (Stray, "s"), (Uneven, "u")]:
                self.refused(kind, (name, ()), function, bad_marks(), (name, ()), None, *more)

    def test_sums(self):
        odd = [thing for thing in odd_objects() if not (isinstance(thing, dict) and repr(thing) in ["{}", "{'': 1}", "{'x': 1}"])]
        odd += [{"x": 0}, {"x": 5}, {"": 0}, {"x": True}, {"x": 1, 1: 1}, {"q": 0}, {"q": 1, "x": 9}]
        for function, more in EVERY[:4]:
            self.refused_all(InvalidSum, odd, function, tale(), LATE, ("c",), None, *more[1:], at=3)
            for wanted, name in [({"z": 1}, "z"), ({"x": 1, "q": 1, "": 1, "z": 3}, "q"), ({"#0": 1}, "#0"), ({"x.y": 1}, "x.y"), ({" ": 1, "~": 1}, " ")]:
                self.refused(UnknownHolder, name, function, tale(), LATE, ("c",), wanted, *more[1:])
        for function, more in PAST:
            self.refused_all(InvalidSum, odd, function, tale(), EARLY, ("b",), LATE, None, *more, at=4)
            self.refused(UnknownHolder, "a", function, tale(), EARLY, ("b",), LATE, {"x": 1, "b": 1, "a": 1}, *more)

    def test_lists_of_sums(self):
        for function, more in [(notes, []), (are_notes, [None])]:
            self.refused_all(InvalidSum, [None, (), {}, "", 0, True, ({"x": 1},), {"x": 1}], function, tale(), LATE, ("c",), None, *more, at=3)
            for bad in [{"x": 0}, None, [], {"x": 5}, {1: 1}, {"q": 0}]:
                self.refused(InvalidSum, bad, function, tale(), LATE, ("c",), [{"x": 1}, bad, {"z": 1}], *more)
                self.refused(UnknownHolder, "z", function, tale(), LATE, ("c",), [{"x": 1}, {"z": 1}, bad], *more)

    def test_marks_of_the_past(self):
        for function, more in PAST:
            self.refused_all(UnknownMark, odd_objects() + [("m",), ("q", ())], function, tale(), EARLY, ("b",), None, {}, *more, at=3)
            bench = bad_marks()
            for kind, name in [(NeverPassed, "n"), (Stray, "s"), (Uneven, "u")]:
                self.refused(kind, (name, ()), function, bench, ("v", ()), ("c",), (name, ()), None, *more)
            # No run passes the one mark behind the other, nor one that is passed once behind itself.
            for earlier, stop, mark in [(LATE, ("c",), EARLY), (LATE, ("c",), LATE), (EARLY, ("b",), EARLY)]:
                self.refused(NeverPassed, mark, function, tale(), earlier, stop, mark, None, *more)
                self.refused(UnknownStop, ("z",), function, tale(), earlier, ("z",), None, None, *more)


class Point62(Against):
    def test_readable_sums(self):
        for stock, mark, stop, variables, holders in self.each(range(120)):
            found = readable(stock.bench, mark, stop)
            vectors = [[wanted.get(name, 0) for name in variables] for wanted in found]
            self.assertEqual(reduced(stock.prime, vectors), vectors)
            for wanted in found:
                self.assertEqual((list(wanted), "" in wanted, 0 in wanted.values()), (sorted(wanted), False, False))
            for numbers in itertools.islice(itertools.product(range(stock.prime), repeat=len(variables)), 30):
                wanted = {name: n for name, n in zip(variables, numbers) if n}
                told = solved(stock.prime, vectors, list(numbers)) is not None if vectors else not wanted
                self.assertIs(read_rule(stock.bench, mark, stop, wanted) is not None, told)

    def test_told_ones(self):
        self.assertEqual(readable(looped(), ("o", ()), ("o",)), [{"x": 1}, {"y": 1}])
        self.assertEqual(readable(told_bench(), JOINED, ("a",)), [{"x": 1}])
        empty = Bench(Program(5, [], [], ([], [("pass", "a")])), Rows(5, 1, {"main": (0, [("mark", "m", [("a",)]), ("end",)])}))
        self.assertEqual(readable(empty, LATE, ("a",)), [])
        for prime in [2, 3, 5, 65537]:
            self.assertEqual(readable(tale(prime), LATE, ("c",)), [{"x": 1, "y": 1}])


class Point63(Against):
    def test_as_few_as_can_be(self):
        chance, many = random.Random(63), [0, 0, 0, 0]
        for stock, mark, stop, variables, holders in self.each(range(80)):
            sums = list(self.sums(chance, stock.prime, variables, chance.randint(0, 4)))
            found = notes(stock.bench, mark, stop, sums)
            self.assertEqual(found, sorted(set(found)))
            enough = [list(c) for n in range(len(sums) + 1) for c in itertools.combinations(range(len(sums)), n) if self.lets_read(stock, mark, stop, sums, c)]
            self.assertIn(found, enough)
            self.assertEqual(len(found), len(enough[0]))
            many[len(found)] += 1
            for n in range(len(sums) + 1):
                for value in itertools.combinations(range(len(sums)), n):
                    self.assertIs(are_notes(stock.bench, mark, stop, sums, list(value)), list(value) in enough and n == len(found))
        self.assertGreater(min(many[:2]), 20)

    def lets_read(self, stock, mark, stop, sums, noted):
        """Whether all sums are told by the holders and the noted ones in all kept runs, by another solver."""
        runs = stock.bench.passings.runs_to(mark, stop)
        variables = sorted(stock.bench.program().flow.living(stock.bench.program().flow.passing_places[stop]))
        worth = [[sum(n * (run.variables[variables.index(k)] if k else 1) for k, n in wanted.items()) % stock.prime for run in runs] for wanted in sums]
        vectors = [list(column) for column in zip(*[run.holders + [1] for run in runs])] + [worth[at] for at in noted]
        return all(solved(stock.prime, vectors, numbers) is not None for numbers in worth)

    def test_judges_and_odd_objects(self):
        desk, sums = tale(), [{"x": 1}, {"y": 1}, {"x": 1, "y": 1}, {"x": 1, "": 2}]
        for value in [[0], [1], [3]]:
            self.assertIs(are_notes(desk, LATE, ("c",), sums, value), True)
        for bad in odd_objects() + [[2], [0, 1], [4], [-1], [True], (0,), [0, 0], [[0]], {0: 0}, [False], 0, [1, 0]]:
            self.assertIs(are_notes(desk, LATE, ("c",), sums, bad), repr(bad) == "[0]", bad)
        self.assertIs(are_notes(desk, EARLY, ("b",), sums, []), True)
        self.assertEqual([notes(desk, LATE, ("c",), []), notes(desk, LATE, ("c",), [{}, {"": 3}, {"x": 2, "y": 2}])], [[], []])

    def test_two_are_needed(self):
        steps = [("read", "a", "x"), ("read", "b", "y"), ("pass", "c"), ("print", "d", {})]
        bench = Bench(Program(3, ["x", "y"], [], ([], steps)), Rows(3, 1, {"main": (0, [("read", 0), ("read", 0), ("set", 0, 0), ("mark", "m", [("c",)]), ("print", 0), ("end",)])}))
        sums = [{"x": 1, "y": 1}, {"x": 2, "y": 2}, {"x": 1}, {"y": 1}]
        self.assertEqual(len(notes(bench, LATE, ("c",), sums)), 2)
        told = [list(v) for n in range(5) for v in itertools.combinations(range(4), n) if are_notes(bench, LATE, ("c",), sums, list(v))]
        self.assertEqual(told, [[0, 2], [0, 3], [1, 2], [1, 3], [2, 3]])
        for bad in [[2, 0], [0, 0], [0, 1], [0, 2, 3], [0, 2.0]]:
            self.assertIs(are_notes(bench, LATE, ("c",), sums, bad), False)


class Point64(Against):
    def past_of(self, stock, earlier, stop, mark, inputs):
        """The numbers of variables at the earlier mark and of holders at the mark, of a run that comes there so."""
        memory, found = None, None
        for many in range(len(inputs) + 1):
            mine, theirs = stock.one.told(inputs[:many]), stock.other.told(inputs[:many])
            found = None
            for told, state, _ in theirs.passed:
                if told == mark and memory is not None:
                    found = (memory, list(state.values()))
                if told == earlier and mine.at(stop):
                    memory = list(mine.at(stop)[0].values())
        return found

    def test_against_all_inputs_of_few_letters(self):
        told, chance = {None: 0, True: 0, False: 0}, random.Random(64)
        for prime in [2, 3]:
            for stock in itertools.chain(chance_stock(range(90), prime, 4), joined_stock(range(10), prime)):
                places = list(seats(stock))
                for earlier, stop in chance.sample(places, min(2, len(places))):
                    for mark in {mark for mark, _ in chance.sample(places, min(2, len(places)))} | {earlier}:
                        self.look_at(stock, earlier, stop, mark, told, chance)
        self.assertGreater(min(told.values()), 20)

    def look_at(self, stock, earlier, stop, mark, told, chance):
        runs = [(inputs, self.past_of(stock, earlier, stop, mark, inputs)) for inputs, _, _ in stock.known[:160]]
        runs = [(inputs, found) for inputs, found in runs if found]
        variables = sorted(next(m.at(stop)[0] for _, m, t in stock.known if m.at(stop) and t.at(earlier)))
        for wanted in self.sums(chance, stock.prime, variables, 2):
            try:
                rule, paper = past_rule(stock.bench, earlier, stop, mark, wanted), past_runs(stock.bench, earlier, stop, mark, wanted)
            except NeverPassed as never:
                self.assertEqual((never.value, runs), (mark, []))
                told[None] += 1
                continue
            self.assertNotEqual(rule is None, paper is None)
            told[rule is None] += 1
            holders = sorted(next(t.at(mark)[0] for _, _, t in stock.known if t.at(mark)))
            if rule is not None:
                self.assertTrue(self.right_rule(stock.prime, rule, holders, wanted, variables, [(i, here, there) for i, (here, there) in runs]))
                self.assertIs(is_past_rule(stock.bench, earlier, stop, mark, wanted, rule), True)
            else:
                self.assertTrue(self.right_paper(stock.prime, paper, holders, wanted, variables, lambda i: self.past_of(stock, earlier, stop, mark, i)))
                self.assertIs(are_past_runs(stock.bench, earlier, stop, mark, wanted, paper), True)

    def test_the_passing_before_and_the_end(self):
        for prime in [3, 5, 65537]:
            bench = looped(prime)
            mark = ("m", ())
            self.assertEqual(past_rule(bench, mark, ("c",), mark, {"x": 1}), {"#2": 1})
            self.assertIs(is_past_rule(bench, mark, ("c",), mark, {"y": 1}, {"#1": 1, "#0": prime - 1}), True)
            self.assertIs(is_past_rule(bench, mark, ("c",), mark, {"y": 1}, {"#1": 1}), False)
            self.assertIs(is_past_rule(bench, mark, ("c",), ("o", ()), {"y": 1, "x": 1}, {"#1": 1, "#0": 1}), True)
            self.assertIs(is_past_rule(bench, mark, ("c",), mark, {"x": 1}, {"#0": 1}), False)

    def test_in_the_same_beat(self):
        steps = [("read", "a", "x"), ("pass", "b"), ("set", "c", "x", {"x": 2, "": 1}), ("print", "d", {"x": 1})]
        rows = [("read", 0), ("mark", "k", [("b",)]), ("times", 0, 2), ("more", 0, 1), ("mark", "m", [("d",)]), ("print", 0), ("end",)]
        bench = Bench(Program(5, ["x"], [], ([], steps)), Rows(5, 1, {"main": (0, rows)}))
        self.assertEqual(past_rule(bench, EARLY, ("b",), LATE, {"x": 1}), {"": 2, "#0": 3})
        self.assertIsNone(past_runs(bench, EARLY, ("b",), LATE, {"x": 1}))
        self.refused(NeverPassed, EARLY, past_rule, bench, LATE, ("d",), EARLY, {})

    def test_passings_at_other_stops_mean_nothing(self):
        """The joined mark is passed at the stops of two arms; what was there at one of them is kept in a box."""
        arms = [([], [("read", "r", "x"), ("pass", "s")]), ([], [("read", "t", "x"), ("pass", "u")])]
        program = Program(5, ["x"], [], ([], [("again", "w", ([], [("pick", "p", arms)]))]))
        joined = ("mark", "m", [("s",), ("u",)])
        rows = [("pick", [9, 1]), ("pick", [2, 4]), ("read", 0), ("go", 6), ("read", 0), ("go", 7), ("copy", 1, 0), joined, ("go", 10), ("end",), ("copy", 2, 1), ("go", 0)]
        bench = Bench(program, Rows(5, 3, {"main": (0, rows)}))
        self.assertEqual(past_rule(bench, LATE, ("s",), LATE, {"x": 1}), {"#2": 1})
        self.assertIsNone(past_rule(bench, LATE, ("u",), LATE, {"x": 1}))
        paper = past_runs(bench, LATE, ("u",), LATE, {"x": 1})
        self.assertIs(are_past_runs(bench, LATE, ("u",), LATE, {"x": 1}, paper), True)
        self.assertIs(are_past_runs(bench, LATE, ("s",), LATE, {"x": 1}, paper), False)

    def test_bent_papers(self):
        desk = tale()
        paper = [([NOUGHT, ONE], 4), ([ONE, NOUGHT], 1)]
        for value in [paper, paper[::-1]]:
            self.assertIs(are_past_runs(desk, EARLY, ("b",), LATE, {"x": 1}, value), True)
        for bent in bent_ones(paper) + odd_objects() + [[], paper[:1], paper * 2, tuple(paper)]:
            self.assertIs(are_past_runs(desk, EARLY, ("b",), LATE, {"x": 1}, bent), repr(bent) == repr(paper[::-1]), bent)
        self.assertIsNone(past_rule(desk, EARLY, ("b",), LATE, {"x": 1}))
        self.assertEqual(past_rule(desk, EARLY, ("b",), LATE, {"": 2}), {"": 2})


class Results(Checks):
    def test_results_may_be_changed_and_names(self):
        desk, sums = tale(), [{"x": 1}, {"y": 1}]
        for wanted in [{"x": 1}, {"x": 1, "y": 1}]:
            for function, judge in [(read_rule, is_read_rule), (read_runs, are_read_runs)]:
                self.unhurt(function, desk, LATE, ("c",), wanted)
                self.same_by_names(function, bench=desk, mark=LATE, stop=("c",), wanted=wanted)
                value = function(desk, LATE, ("c",), wanted)
                self.unhurt(judge, desk, LATE, ("c",), wanted, value)
                self.same_by_names(judge, bench=desk, mark=LATE, stop=("c",), wanted=wanted, value=value)
            for function, judge in [(past_rule, is_past_rule), (past_runs, are_past_runs)]:
                self.unhurt(function, desk, EARLY, ("b",), LATE, wanted)
                self.same_by_names(function, bench=desk, earlier=EARLY, stop=("b",), mark=LATE, wanted=wanted)
                value = function(desk, EARLY, ("b",), LATE, wanted)
                self.unhurt(judge, desk, EARLY, ("b",), LATE, wanted, value)
                self.same_by_names(judge, bench=desk, earlier=EARLY, stop=("b",), mark=LATE, wanted=wanted, value=value)
        self.unhurt(readable, desk, LATE, ("c",))
        self.same_by_names(readable, bench=desk, mark=LATE, stop=("c",))
        self.unhurt(notes, desk, LATE, ("c",), sums)
        self.same_by_names(notes, bench=desk, mark=LATE, stop=("c",), sums=sums)
        self.unhurt(are_notes, desk, LATE, ("c",), sums, [0])
        self.same_by_names(are_notes, bench=desk, mark=LATE, stop=("c",), sums=sums, value=[0])

    def test_the_same_whatever_was_asked_before(self):
        calls = [(read_rule, (LATE, ("c",), {"x": 1})), (read_runs, (LATE, ("c",), {"x": 1})), (readable, (LATE, ("c",))), (past_rule, (EARLY, ("b",), LATE, {"x": 1, "y": 2})),
                 (past_runs, (EARLY, ("b",), LATE, {"x": 1})), (notes, (LATE, ("c",), [{"x": 1}, {"y": 1}])), (readable, (EARLY, ("b",)))]
        told = [repr(function(tale(), *more)) for function, more in calls]
        for seed in range(10):
            bench, order = tale(), list(range(len(calls))) * 2
            random.Random(seed).shuffle(order)
            for at in order:
                self.assertEqual(repr(calls[at][0](bench, *calls[at][1])), told[at])
