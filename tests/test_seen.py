"""What is seen later: [40], [41] and [42]."""

import itertools
import random

from tests.brute import chance_engines
from tests.checks import Checks, bent_ones
from tests.machines import letters_for
from tests.odd import odd_objects
from tests.test_spans import NOUGHT, ON, ROUND, summing, summing_rows, wheres
from truestops.errors import InvalidEngine, InvalidInputs, InvalidSum, NeverPassed, UnknownHolder, UnknownMark, UnknownStop
from truestops.numbers import rank, reduced, solved
from truestops.programs import Program
from truestops.rows import Rows
from truestops.seen import idle_stirs, is_idle, is_seen_paper, seen_paper, seen_sums, showing, shown
from truestops.spans import kept_at

EVERY = [(shown, [{}, []]), (is_idle, [{}]), (idle_stirs, []), (showing, [{}]), (seen_sums, []), (seen_paper, []), (is_seen_paper, [None])]


def doubling():
    lines = [("read", "a", "x"), ("set", "b", "y", {"x": 2}), ("print", "c", {"x": 1, "y": 1})]
    return Program(5, [], [], (["x", "y"], lines + [("again", "d", ([], [("print", "e", {"y": 1})]))]))


def goings_on(one, inputs, most):
    """All goings-on of at most so many letters, with noughts for numbers, in order."""
    level = [[]]
    for _ in range(most + 1):
        yield from level
        level = [letters + [letter] for letters in level for letter in letters_for(one.told(inputs + letters).asked, 1)]


class Against(Checks):
    def each(self, seeds, most):
        """Each engine by chance with each place that some run passes, its holders, and the goings-on of few letters."""
        for prime in [2, 3]:
            for one in chance_engines(seeds, prime):
                for where, holders in wheres(one.engine):
                    kept = kept_at(one.engine, where)
                    if kept:
                        yield one, where, holders, kept, list(goings_on(one, kept[0][0], most))

    def factors(self, one, where, holders, going_on):
        """By how much each number is raised when a holder alone is raised by 1, as `shown` tells it."""
        columns = [shown(one.engine, where, {holder: 1}, going_on) for holder in holders]
        return [list(row) for row in zip(*columns)]


class Point40(Against):
    def test_stirred_runs(self):
        """EVERY run that is stirred n times prints n times what is shown more, whatever numbers are read."""
        tried, chance = 0, random.Random(4)
        for one, where, holders, kept, goings in self.each(range(160), 3):
            stir = {holder: chance.randrange(1, one.prime) for holder in holders if chance.random() < 0.5}
            many = chance.randrange(one.prime)
            for inputs, _ in kept:
                for going_on in chance.sample(goings, min(8, len(goings))):
                    going_on = [(word, chance.randrange(one.prime) if word == "number" else n) for word, n in going_on]
                    told = shown(one.engine, where, stir, going_on)
                    before = one.printed_from(where, inputs, going_on, {})
                    after = one.printed_from(where, inputs, going_on, {holder: many * n for holder, n in stir.items()})
                    self.assertEqual(after, [(a + many * n) % one.prime for a, n in zip(before, told)])
                    self.assertEqual(len(before), len(told))
                    tried += 1
        self.assertGreater(tried, 1500)

    def test_numbers_read_mean_nothing(self):
        chance = random.Random(3)
        for one, where, holders, kept, goings in self.each(range(60), 3):
            stir = {holder: chance.randrange(1, one.prime) for holder in holders if chance.random() < 0.6}
            for going_on in goings[:8]:
                other = [(word, chance.randrange(one.prime) if word == "number" else n) for word, n in going_on]
                self.assertEqual(shown(one.engine, where, stir, other), shown(one.engine, where, stir, going_on))

    def test_sums_of_stirs_show_sums(self):
        for one, where, holders, kept, goings in self.each(range(60), 3):
            for going_on in goings[:6]:
                if holders:
                    rows = self.factors(one, where, holders, going_on)
                    stir = {holder: one.prime - 1 for holder in holders}
                    self.assertEqual(shown(one.engine, where, stir, going_on), [-sum(row) % one.prime for row in rows])

    def test_told_ones(self):
        double = doubling()
        self.assertEqual(shown(double, ("a",), {"x": 1}, []), [])
        self.assertEqual(shown(double, ("b",), {"x": 1, "y": 3}, []), [3])
        self.assertEqual(shown(double, ("c",), {"y": 2}, [ROUND, ROUND, ON]), [2, 2, 2])
        self.assertEqual(shown(double, ("c",), {}, [ROUND]), [0, 0])
        self.assertEqual(shown(double, ("d",), {"y": 2}, [ROUND]), [2])
        rows = Rows(5, 2, {"main": (1, [("read", 0), ("keep", 0, 0), ("call", "one", "c"), ("print", 0), ("end",)]),
                           "one": (1, [("more", 0, 3), ("mark", "m", [("s",)]), ("fetch", 1, 0), ("print", 1), ("add", 0, 1), ("take", 1, 0), ("print", 1), ("back",)])})
        mark = ("m", ("c",))
        self.assertEqual(shown(rows, mark, {"#0": 1, "@0.0": 2, "@1.0": 3}, []), [2, 3, 3])
        self.assertEqual(shown(rows, mark, {"#1": 1}, []), [0, 0, 0])
        self.assertEqual(shown(summing_rows(65537), ("m", ()), {"#1": 65536}, []), [65536])

    def test_wrong_engines_and_places(self):
        odd = [thing for thing in odd_objects() if not isinstance(thing, Program)]
        for function, more in EVERY:
            self.refused_all(InvalidEngine, odd, function, None, ("c",), *more, at=0)
            self.refused_all(UnknownStop, odd_objects() + [("f",), ("m", ()), ["c"]], function, doubling(), None, *more, at=1)
            self.refused_all(UnknownMark, odd_objects() + [("c",), ("k", ()), ["m", ()]], function, summing_rows(), None, *more, at=1)
            self.refused(NeverPassed, ("no", ()), function, summing_rows(), ("no", ()), *more)
            self.refused(NeverPassed, ("no", ()), function, summing_rows(), ("no", ()), *[object() for _ in more])

    def test_wrong_stirs(self):
        odd = [thing for thing in odd_objects() if not (isinstance(thing, dict) and thing in ({}, {"x": 1}) and True not in [v is True for v in thing.values()])]
        odd += [{"x": 0}, {"x": 5}, {"x": -1}, {"": 1}, {"x": 1, "": 1}, {"x": 1, 1: 1}, {"x": "1"}, {"zz": 0}, {"zz": 1, "": 1}]
        for function, more in [(shown, [[]]), (is_idle, []), (showing, [])]:
            self.refused_all(InvalidSum, odd, function, doubling(), ("c",), None, *more, at=2)
            for stir, name in [({"z": 1}, "z"), ({"x": 1, "z": 2, "q": 1}, "q"), ({"#0": 1}, "#0"), ({"x.y": 4, "z": 1}, "x.y"), ({"Q": 1}, "Q")]:
                self.refused(UnknownHolder, name, function, doubling(), ("c",), stir, *more)
            self.refused(UnknownHolder, "@1.0", function, summing_rows(), ("m", ()), {"@1.0": 1, "#1": 1}, *more)

    def test_goings_on_that_do_not_fit(self):
        double = doubling()
        self.refused_all(InvalidInputs, [None, (), (ROUND,), ROUND, {}, "", 0, True], shown, double, ("c",), {}, None, at=3)
        for position, bad in [(0, NOUGHT), (0, ("choice", 2)), (0, None), (1, ("choice", True)), (2, ROUND), (2, None)]:
            self.refused(InvalidInputs, position, shown, double, ("c",), {}, ([ROUND, ON] + [None])[:position] + [bad, None])
        for bad in [("number", 5), ("number", -1), ON, ["number", 0], ("number", False)]:
            self.refused(InvalidInputs, 0, shown, double, ("a",), {"x": 1}, [bad])
        self.refused(InvalidInputs, 0, shown, summing_rows(), ("m", ()), {}, [ON])

    def test_many_letters(self):
        self.assertEqual(shown(doubling(), ("c",), {"y": 1}, [ROUND] * 240), [1] * 241)


class Point41(Against):
    def test_idle_and_showing_against_goings_on_of_few_letters(self):
        words = {True: 0, False: 0}
        for one, where, holders, kept, goings in self.each(range(120), 4):
            chance = random.Random(5)
            for _ in range(3):
                stir = {holder: chance.randrange(1, one.prime) for holder in holders if chance.random() < 0.5}
                found = showing(one.engine, where, stir)
                words[found is None] += 1
                self.assertIs(is_idle(one.engine, where, stir), found is None)
                raised = [(g, told.index(n)) for g in goings for told in [shown(one.engine, where, stir, g)] for n in told if n]
                if found is not None and len(found[0]) <= max(len(g) for g in goings):
                    self.assertEqual(found, raised[0])
                else:
                    self.assertEqual(raised, [])
                if found is not None:
                    self.assertNotEqual(shown(one.engine, where, stir, found[0])[found[1]], 0)
        self.assertGreater(min(words.values()), 60)

    def test_idle_stirs(self):
        for one, where, holders, kept, goings in self.each(range(120), 3):
            found = idle_stirs(one.engine, where)
            vectors = [[stir.get(holder, 0) for holder in holders] for stir in found]
            self.assertEqual(reduced(one.prime, vectors), vectors)
            for stir in found:
                self.assertEqual((list(stir), 0 in stir.values()), (sorted(stir), False))
                self.assertIs(is_idle(one.engine, where, stir), True)
            for numbers in itertools.islice(itertools.product(range(one.prime), repeat=len(holders)), 30):
                stir = {holder: n for holder, n in zip(holders, numbers) if n}
                idle = not any(numbers) or solved(one.prime, vectors, list(numbers)) is not None if vectors else not any(numbers)
                self.assertIs(is_idle(one.engine, where, stir), idle)

    def test_the_least_one_though_it_is_long(self):
        """A chain of variables: what is raised comes to be printed only behind as many rounds."""
        names = ["a", "b", "c", "d", "e"]
        round_of = [("set", "s" + name, name, {behind: 1}) for name, behind in zip(names, names[1:])]
        program = Program(3, names, [], ([], [("pass", "t"), ("again", "w", ([], [("print", "o", {"a": 1})] + round_of)), ("again", "v", ([], []))]))
        self.assertEqual(showing(program, ("t",), {"e": 1}), ([ROUND] * 5, 4))
        self.assertEqual(showing(program, ("t",), {"e": 1, "c": 2}), ([ROUND] * 3, 2))
        self.assertIsNone(showing(program, ("v",), {"a": 1}))
        self.assertEqual(showing(program, ("t",), {"a": 1}), ([ROUND], 0))
        self.assertIsNone(showing(program, ("t",), {}))

    def test_reads_are_noughts_and_the_first_of_equal_letters(self):
        program = Program(5, ["x", "y"], [], ([], [("pass", "t"), ("read", "r", "y"), ("pick", "p", [([], []), ([], [("print", "o", {"y": 1}), ("print", "q", {"x": 1})]), ([], [("print", "s", {"x": 1})])])]))
        self.assertEqual(showing(program, ("t",), {"x": 1}), ([NOUGHT, ("choice", 1)], 1))
        self.assertIsNone(showing(program, ("t",), {"y": 1}))
        self.assertEqual(idle_stirs(program, ("t",)), [{"y": 1}])


class Point42(Against):
    def test_sums_beside_idle_stirs(self):
        tried = 0
        for one, where, holders, kept, goings in self.each(range(120), 4):
            found = seen_sums(one.engine, where)
            vectors = [[wanted.get(holder, 0) for holder in holders] for wanted in found]
            self.assertEqual(reduced(one.prime, vectors), vectors)
            self.assertEqual(len(found) + len(idle_stirs(one.engine, where)), len(holders))
            seen = [row for going_on in goings for row in self.factors(one, where, holders, going_on)]
            for row in seen:
                self.assertIsNotNone(solved(one.prime, vectors, row) if vectors else (None if any(row) else []))
            # What is seen behind many letters is not gone through here; few letters never see more.
            self.assertLessEqual(rank(one.prime, seen), len(vectors))
            tried += len(found)
        self.assertGreater(tried, 120)

    def test_papers(self):
        for one, where, holders, kept, goings in self.each(range(120), 3):
            paper = seen_paper(one.engine, where)
            found = seen_sums(one.engine, where)
            self.assertEqual(len(paper), len(found))
            self.assertIs(is_seen_paper(one.engine, where, paper), True)
            rows = [self.factors(one, where, holders, going_on)[position] for going_on, position in paper]
            self.assertEqual(reduced(one.prime, rows), [[wanted.get(holder, 0) for holder in holders] for wanted in found])
            for going_on, position in paper:
                self.assertEqual([n for word, n in going_on if word == "number" and n], [])

    def test_bent_papers(self):
        double = doubling()
        paper = [([], 0), ([ROUND], 1)]
        harmless = [paper, paper[::-1], [([], 0), ([ROUND, ROUND], 1)], [([ON], 0), ([ROUND, ON], 1)], [([ROUND], 0), ([ROUND], 1)]]
        for value in harmless:
            self.assertIs(is_seen_paper(double, ("c",), value), True)
        bents = bent_ones(paper) + odd_objects() + [[([], 0), ([], 1)], [([], 0), ([ROUND], 2)], [([], 0), ([ROUND, ROUND], 0)], [([], 0), ([ROUND], True)],
                                                    [([], 0), ([ROUND], 10 ** 30)], [([ROUND], 1), ([ROUND, ROUND], 2)], [([], 0), (ROUND, 1)], [([], 0), ((ROUND,), 1)]]
        for bent in bents:
            self.assertIs(is_seen_paper(double, ("c",), bent), repr(bent) in [repr(value) for value in harmless], bent)

    def test_any_numbers_may_be_read(self):
        program = Program(5, ["x", "y"], [], ([], [("pass", "t"), ("read", "r", "y"), ("print", "o", {"x": 2, "y": 1})]))
        for n in range(5):
            self.assertIs(is_seen_paper(program, ("t",), [([("number", n)], 0)]), True)
        for bad in [("number", 5), ("number", True), ("number", -1), ("choice", 0), None]:
            self.assertIs(is_seen_paper(program, ("t",), [([bad], 0)]), False)
        self.assertEqual(seen_sums(program, ("t",)), [{"x": 1}])

    def test_nothing_seen(self):
        program = Program(5, ["x"], [], ([], [("print", "o", {"x": 1}), ("pass", "t")]))
        self.assertEqual([seen_sums(program, ("t",)), idle_stirs(program, ("t",)), seen_paper(program, ("t",))], [[], [{"x": 1}], []])
        self.assertIs(is_seen_paper(program, ("t",), []), True)
        for bad in odd_objects():
            self.assertIs(is_seen_paper(program, ("t",), bad), bad == [])

    def test_the_primes(self):
        for prime in [2, 3, 5, 65537]:
            self.assertEqual(seen_sums(summing(prime), ("b",)), [{"x": 1}, {"y": 1}])
            self.assertEqual(seen_sums(summing_rows(prime), ("m", ())), [{"#1": 1}])
            self.assertEqual(showing(summing(prime), ("b",), {"x": prime - 1}), ([ROUND, ON], 0))

    def test_at_the_limits(self):
        names = ["u", "v", "w", "x", "y", "z"]
        turn = [("set", "s" + name, name, {behind: 1, name: 3}) for name, behind in zip(names[:4], names[1:5])]
        program = Program(65537, names, [], ([], [("pass", "t"), ("again", "w", ([], turn + [("print", "o", {"u": 1})])), ("read", "r", "z"), ("print", "q", {"z": 1, "y": 1})]))
        self.assertEqual(len(seen_sums(program, ("t",))), 5)
        self.assertEqual(idle_stirs(program, ("t",)), [{"z": 1}])
        paper = seen_paper(program, ("t",))
        self.assertIs(is_seen_paper(program, ("t",), paper), True)
        self.assertIs(is_seen_paper(program, ("t",), [(going_on + [ROUND] * 0, position) for going_on, position in paper][:-1]), False)

    def test_results_may_be_changed_and_names(self):
        for engine, where, stir, going_on in [(doubling(), ("c",), {"x": 1}, [ROUND]), (summing_rows(), ("m", ()), {"#1": 2}, [])]:
            calls = [(shown, {"stir": stir, "going_on": going_on}), (is_idle, {"stir": stir}), (idle_stirs, {}), (showing, {"stir": stir}),
                     (seen_sums, {}), (seen_paper, {}), (is_seen_paper, {"value": seen_paper(engine, where)})]
            for function, more in calls:
                self.unhurt(function, engine, where, *more.values())
                self.same_by_names(function, engine=engine, where=where, **more)
