"""Alike: [35], [36], [37] and [38]."""

from tests.brute import Engine, is_mixture_of
from tests.checks import Checks, bent_ones
from tests.machines import ChanceRows, letters_for
from tests.odd import odd_objects
from tests.oracle import Chance
from tests.test_spans import NOUGHT, ON, ONE, ROUND, summing, summing_rows
from truestops.alike import alike, alike_paper, enough, is_alike_paper, kept_beside, parting_inputs, where_beside
from truestops.errors import Fault, InvalidEngine, UnknownMark, UnknownStop, UnlikePrimes, Unsound
from truestops.making import made
from truestops.programs import Program
from truestops.rows import Rows


def bent_program(chance, parts):
    """The parts of a program in which one factor, of a set or a print, is another one."""
    prime, shared, procedures, body = parts
    spots = []

    def bend(block, at):
        found = []
        for statement in block[1]:
            if statement[0] in ("set", "print"):
                spots.append(statement)
                if len(spots) - 1 == at:
                    wanted = dict(statement[-1])
                    wanted[""] = (wanted.get("", 0) + 1) % prime or 1
                    statement = statement[:-1] + (wanted,)
            elif statement[0] == "again":
                statement = statement[:2] + (bend(statement[2], at),)
            elif statement[0] == "pick":
                statement = statement[:2] + ([bend(arm, at) for arm in statement[2]],)
            found.append(statement)
        return (block[0], found)

    bend(body, -1)
    at = chance.randrange(len(spots)) if spots else -1
    spots.clear()
    return (prime, shared, procedures, bend(body, at))


def bent_rows(chance, parts):
    """The parts of rows in which one row is another one."""
    prime, boxes, units = parts
    name = chance.choice(sorted(units))
    cells, rows = units[name]
    at = chance.randrange(len(rows))
    row = rows[at]
    if row[0] in ("set", "times", "more"):
        row = row[:2] + ((row[2] + 1) % prime,)
    elif row[0] == "add":
        row = ("copy",) + row[1:]
    elif row[0] == "pick":
        row = ("pick", row[1][::-1])
    elif row[0] == "print":
        row = ("print", (row[1] + 1) % boxes)
    return (prime, boxes, {**units, name: (cells, rows[:at] + [row] + rows[at + 1:])})


def pairs(seeds, prime):
    """Engines side by side: programs and rows made of them, bent or not; rows and bent rows; either way round."""
    for seed in seeds:
        try:
            if seed % 3 == 0:
                parts = ChanceRows(seed, prime).parts()
                one = Engine(parts, False)
                other = Engine(bent_rows(ChanceRows(seed).random, parts), False)
            else:
                chance = Chance(seed)
                chance.prime = prime
                parts = chance.program()
                one = Engine(parts, True)
                shown = made(one.engine)
                parts = (prime, 3, shown.units())
                if seed % 3 == 1:
                    other = Engine(bent_rows(chance.random, parts) if seed % 2 else parts, False)
                else:
                    other = Engine(bent_program(chance.random, one.parts), True)
        except (Fault, Unsound):
            continue
        yield (one, other) if seed % 5 else (other, one)


class Beside:
    """Two engines, gone through side by side with all inputs of few letters, by the second reckonings."""

    def __init__(self, one, other, most):
        self.prime = one.prime
        self.most = most
        self.known = []
        self.parting = None
        level = [[]]
        for _ in range(most + 1):
            following = []
            for inputs in level:
                mine, theirs = one.told(inputs), other.told(inputs)
                self.known.append((inputs, mine, theirs))
                if (mine.beats[-1], mine.asked) == (theirs.beats[-1], theirs.asked):
                    following += [inputs + [letter] for letter in letters_for(mine.asked, self.prime)]
                elif self.parting is None:
                    self.parting = inputs
            level = following

    def alike(self):
        """Those inputs on which, and on each beginning of which, both print alike."""
        return [(i, m, t) for i, m, t in self.known if (m.beats[-1], m.asked) == (t.beats[-1], t.asked)]

    def kept(self):
        """The kept ones of few letters as (inputs, place, state, other place, other state)."""
        found, states = [], {}
        for inputs, mine, theirs in self.alike():
            if mine.asked != ("end",):
                numbers = list(mine.state.values()) + list(theirs.state.values())
                others = states.setdefault((mine.place, theirs.place), [])
                if not is_mixture_of(self.prime, numbers, others):
                    others.append(numbers)
                    found.append((inputs, mine.place, mine.state, theirs.place, theirs.state))
        return found


def most_for(prime):
    return 5 if prime == 2 else 4


class Against(Checks):
    def each(self, seeds):
        for prime in [2, 3]:
            for one, other in pairs(seeds, prime):
                yield one.engine, other.engine, Beside(one, other, most_for(prime))


def bad_rows():
    main = [("read", 0), ("pick", [4, 2]), ("copy", 1, 0), ("go", 1), ("print", 1), ("end",)]
    return Rows(5, 2, {"main": (0, main)})


class Point35(Against):
    def test_against_all_inputs_of_few_letters(self):
        told = {True: 0, False: 0}
        for one, other, beside in self.each(range(260)):
            parting = parting_inputs(one, other)
            told[parting is None] += 1
            self.assertIs(alike(one, other), parting is None)
            if parting is None or len(parting) > beside.most:
                self.assertIsNone(beside.parting)
            else:
                self.assertEqual(parting, beside.parting)
        self.assertGreater(min(told.values()), 30)

    def test_parting_behind_more_letters_than_are_gone_through(self):
        late = [("read", "a", "x"), ("again", "b", ([], [("set", "c", "y", {"x": 1, "y": 1})])), ("print", "d", {"y": 1}), ("print", "e", {"x": 1})]
        other = Program(5, ["x", "y"], [], ([], late[:3] + [("print", "f", {"y": 1})]))
        self.assertEqual(parting_inputs(Program(5, ["x", "y"], [], ([], late)), other), [ONE, ON])

    def test_each_way_of_being_unlike(self):
        def with_print(steps):
            return Program(5, ["x"], [], ([], [("read", "a", "x")] + steps))
        both = with_print([("print", "b", {"x": 1})])
        self.assertEqual(parting_inputs(both, with_print([])), [NOUGHT])
        self.assertEqual(parting_inputs(both, with_print([("print", "b", {"x": 1}), ("print", "c", {})])), [NOUGHT])
        self.assertEqual(parting_inputs(both, with_print([("print", "b", {"x": 2})])), [ONE])
        self.assertEqual(parting_inputs(both, with_print([("print", "b", {"x": 1}), ("read", "c", "x")])), [NOUGHT])
        picks = [with_print([("pick", "p", [([], [])] * many)]) for many in [2, 3]]
        self.assertEqual(parting_inputs(*picks), [NOUGHT])
        self.assertEqual(parting_inputs(Program(5, [], [], ([], [("print", "a", {"": 1})])), Program(5, [], [], ([], []))), [])
        self.assertIsNone(parting_inputs(both, Rows(5, 1, {"main": (0, [("read", 0), ("print", 0), ("end",)])})))

    def test_primes(self):
        for prime in [2, 3, 5, 65537]:
            self.assertIs(alike(summing(prime), summing_rows(prime)), True)
            self.assertIs(alike(summing_rows(prime), summing(prime)), True)

    def test_wrong_arguments(self):
        calls = [(alike, []), (parting_inputs, []), (kept_beside, []), (enough, []), (where_beside, [None]), (alike_paper, []), (is_alike_paper, [None])]
        odd = [thing for thing in odd_objects() if not isinstance(thing, Program)] + [Program, (5, 2, {})]
        for function, more in calls:
            for good, where in [(summing(), ("a",)), (summing_rows(), ("m", ()))]:
                more = [where] if function is where_beside else more
                self.refused_all(InvalidEngine, odd, function, None, good, *more, at=0)
                self.refused_all(InvalidEngine, odd, function, good, None, *more, at=1)
                for other in [summing(7), summing_rows(2)]:
                    self.refused(UnlikePrimes, other, function, good, other, *more)
                    self.refused(UnlikePrimes, good, function, other, good, *more)
                    self.refused(UnlikePrimes, good, function, other, good, *[[] for _ in more])

    def test_results_may_be_changed_and_names(self):
        for one, other, where in [(summing(), summing_rows(), ("c",)), (summing_rows(), summing(), ("m", ())), (summing(), bad_rows(), ("d",))]:
            for function in [alike, parting_inputs, kept_beside, enough, alike_paper]:
                self.unhurt(function, one, other)
                self.same_by_names(function, one=one, other=other)
            self.unhurt(where_beside, one, other, where)
            self.same_by_names(where_beside, one=one, other=other, where=where)
            paper = alike_paper(one, other)
            self.unhurt(is_alike_paper, one, other, paper)
            self.same_by_names(is_alike_paper, one=one, other=other, value=paper)


class Point36(Against):
    def test_against_all_inputs_of_few_letters(self):
        tried = 0
        for one, other, beside in self.each(range(260)):
            found = kept_beside(one, other)
            told = [(inputs, state, there) for inputs, _, state, _, there in beside.kept()]
            self.assertEqual(repr([item for item in found if len(item[0]) <= beside.most]), repr(told))
            self.assertEqual(enough(one, other), len(found))
            tried += len(told)
        self.assertGreater(tried, 500)

    def test_where_the_engines_part_nothing_is_gone_on_from(self):
        self.assertEqual([inputs for inputs, _, _ in kept_beside(summing(), bad_rows())], [[], [NOUGHT], [ONE], [ONE, ROUND], [ONE, ROUND, ROUND]])
        short = Program(5, ["x"], [], ([], [("read", "a", "x"), ("print", "b", {"x": 1}), ("read", "c", "x"), ("read", "d", "x")]))
        other = Program(5, ["x"], [], ([], [("read", "a", "x"), ("print", "b", {}), ("read", "c", "x"), ("read", "d", "x")]))
        self.assertEqual([inputs for inputs, _, _ in kept_beside(short, other)], [[], [NOUGHT], [NOUGHT, NOUGHT], [NOUGHT, ONE]])
        self.assertEqual(enough(Program(5, [], [], ([], [("print", "a", {})])), Program(5, [], [], ([], []))), 0)

    def test_bounds(self):
        for one, other, _ in self.each(range(40)):
            by_pair = {}
            for inputs, state, there in kept_beside(one, other):
                by_pair.setdefault((tuple(state), tuple(there)), []).append(inputs)
                self.assertLessEqual(max([0] + [n for word, n in inputs if word == "number"]), 1)

    def test_at_the_limits(self):
        """Twelve pairs of askings, six variables beside boxes and cells."""
        names = ["u", "v", "w", "x", "y", "z"]
        steps = [("again", "g" + name, ([], [("read", "r" + name, name)])) for name in names]
        program = Program(65537, names, [], ([], steps))
        self.assertIs(alike(program, made(program)), True)
        self.assertIn(enough(program, made(program)), range(12, 12 * 19 + 1))
        paper = alike_paper(program, made(program))
        self.assertEqual(len(paper), 12)
        self.assertIs(is_alike_paper(program, made(program), paper), True)


class Point37(Against):
    def test_against_all_inputs_of_few_letters(self):
        tried = 0
        for one, other, beside in self.each(range(260)):
            wheres = sorted({where for _, mine, _ in beside.known for where, _, _ in mine.passed})
            for where in wheres[:4]:
                told, states = [], {}
                # Of all alike inputs: those gone through are enough to keep the same ones.
                for inputs, mine, theirs in beside.alike():
                    if mine.at(where):
                        state = mine.at(where)[0]
                        place = None if theirs.asked == ("end",) else theirs.place
                        numbers = list(state.values()) + list(theirs.state.values())
                        others = states.setdefault(place, [])
                        if not is_mixture_of(beside.prime, numbers, others):
                            others.append(numbers)
                            told.append((inputs, state, place, theirs.state))
                found = where_beside(one, other, where)
                self.assertEqual(repr([item for item in found if len(item[0]) <= beside.most]), repr(told))
                tried += len(told)
        self.assertGreater(tried, 300)

    def test_at_an_asking_and_at_the_end(self):
        found = where_beside(summing(), summing_rows(), ("d",))
        self.assertEqual([(inputs, place) for inputs, _, place, _ in found], [([NOUGHT, ON], None), ([ONE, ON], None), ([ONE, ROUND, ON], None)])
        self.assertEqual(found[2], ([ONE, ROUND, ON], {"x": 1, "y": 1}, None, {"#0": 1, "#1": 1}))
        found = where_beside(summing_rows(), summing(), ("m", ()))
        self.assertEqual(found[1], ([ONE, ON], {"#0": 1, "#1": 0}, None, {"x": 1, "y": 0}))
        found = where_beside(summing(), summing(), ("c",))
        self.assertEqual(found[0], ([NOUGHT, ROUND], {"x": 0, "y": 0}, ("b",), {"x": 0, "y": 0}))
        found = where_beside(summing(), summing_rows(), ("b",))
        self.assertEqual({place for _, _, place, _ in found}, {((), "main", 1)})
        self.assertEqual(where_beside(summing_rows(), summing(), ("no", ())), [])

    def test_places_apart(self):
        """One stop is passed both ahead of an asking and ahead of the end."""
        steps = [("again", "a", ([], [("pass", "b"), ("pick", "p", [([], []), ([], [])])])), ("pass", "c")]
        one = Program(5, [], [], ([], steps))
        other = Rows(5, 1, {"main": (1, [("set", 0, 1), ("pick", [3, 2]), ("pick", [0, 0]), ("keep", 0, 0), ("end",)])})
        self.assertEqual(where_beside(one, other, ("a",)), [([], {}, ((), "main", 1), {"#0": 1, "@0.0": 0})])
        self.assertEqual(where_beside(one, other, ("c",)), [([ON], {}, None, {"#0": 1, "@0.0": 1})])
        fork = Program(5, [], [], ([], [("pass", "z"), ("pick", "p", [([], [("pass", "y")]), ([], [("pass", "x"), ("pick", "q", [([], [])] * 2)])])]))
        twin = Rows(5, 1, {"main": (0, [("mark", "z", [("z",)]), ("pick", [2, 3]), ("go", 4), ("pick", [4, 4]), ("mark", "w", [("y",)]), ("end",)])})
        self.assertEqual(where_beside(twin, fork, ("w", ())), [([ON], {"#0": 0}, None, {})])

    def test_unlike_inputs_are_left_out(self):
        found = where_beside(summing(), bad_rows(), ("d",))
        self.assertEqual([inputs for inputs, _, _, _ in found], [[NOUGHT, ON], [ONE, ON], [ONE, ROUND, ON]])
        part = Program(5, ["x"], [], ([], [("read", "a", "x"), ("pass", "s"), ("print", "b", {"x": 1})]))
        nought = Program(5, ["x"], [], ([], [("read", "a", "x"), ("pass", "s"), ("print", "b", {})]))
        self.assertEqual(where_beside(part, nought, ("s",)), [([NOUGHT], {"x": 0}, None, {"x": 0})])

    def test_wrong_places(self):
        for bad in odd_objects() + [("e",), ("m", ()), "a", ["a"]]:
            self.refused(UnknownStop, bad, where_beside, summing(), summing_rows(), bad)
        for bad in odd_objects() + [("a",), ("k", ()), ("m", ("c",)), ["m", ()]]:
            self.refused(UnknownMark, bad, where_beside, summing_rows(), summing(), bad)


class Point38(Against):
    def test_papers_and_unlike_engines(self):
        told = {True: 0, False: 0}
        for one, other, _ in self.each(range(260)):
            paper = alike_paper(one, other)
            told[paper is None] += 1
            self.assertEqual(paper is None, not alike(one, other))
            if paper is not None:
                self.assertIs(is_alike_paper(one, other, paper), True)
                turned = {(there, here): [(b, a) for a, b in joints] for (here, there), joints in paper.items()}
                self.assertIs(is_alike_paper(other, one, turned), True)
            else:
                made_up = {}
                for inputs, state, there in kept_beside(one, other):
                    made_up.setdefault(tuple(self.places(one, other, inputs)), []).append((state, there))
                self.assertIs(is_alike_paper(one, other, made_up), False)
        self.assertGreater(min(told.values()), 30)

    def places(self, one, other, inputs):
        from truestops.programs import passed_stops
        from truestops.rows import stands
        return [passed_stops(e, inputs)[-1][0] if isinstance(e, Program) else stands(e, inputs)[0] for e in [one, other]]

    def test_bent_papers(self):
        one, other = summing(), summing_rows()
        paper = alike_paper(one, other)
        self.assertEqual(list(paper), [(("a",), ((), "main", 0)), (("b",), ((), "main", 1))])
        right = [
            {key: list(reversed(paper[key])) for key in reversed(list(paper))},
            {key: joints + joints for key, joints in paper.items()},
            {key: [tuple(dict(reversed(state.items())) for state in joint) for joint in joints] for key, joints in paper.items()},
            {key: joints[:2] + [({"x": 3, "y": 2}, {"#0": 3, "#1": 2})] for key, joints in paper.items() if key[0] == ("b",)} | {list(paper)[0]: paper[list(paper)[0]]},
        ]
        for value in right:
            self.assertIs(is_alike_paper(one, other, value), True)
        judged = [is_alike_paper(one, other, bent) for bent in bent_ones(paper) + odd_objects()]
        # A state that is bent by a number fits no more: all variables and boxes count here.
        for bent, found in zip(bent_ones(paper) + odd_objects(), judged):
            self.assertIs(found, self.is_harmless(bent, paper), bent)
        self.assertEqual(judged.count(True), 3)

    def is_harmless(self, bent, paper):
        """A doubled joint state, or lists turned round, are still a paper."""
        if not isinstance(bent, dict) or list(bent) != list(paper) or not all(isinstance(bent[key], list) for key in paper):
            return False
        return all({repr(joint) for joint in bent[key]} == {repr(joint) for joint in paper[key]} for key in paper)

    def test_bent_pairs(self):
        one, other = summing(), summing_rows()
        paper = alike_paper(one, other)
        first, second = list(paper)
        for bad in [(("a",), ((), "main", 1)), (("b",), ((), "main", 0)), (("c",), ((), "main", 1)), (("d",), ((), "main", 4)), (("a",), ((), "main", 5)),
                    (("a",), ((), "none", 0)), (("a",), (("a",), "main", 0)), (("a",), ((), "main")), (("a",), 0), (("a",),), ("a",), "ab", 0, None, (),
                    (((), "main", 0), ("a",)), (("a",), ((), "main", -1)), (("a",), ((), "main", 99))]:
            self.assertIs(is_alike_paper(one, other, {**paper, bad: paper[first]}), False, bad)
            self.assertIs(is_alike_paper(one, other, {bad: paper[first], second: paper[second]}), False, bad)
        for false in [(("a",), ((), "main", False)), (("b",), ((), "main", True))]:
            bent = {false if key == false else key: paper[key] for key in paper}
            self.assertIs(is_alike_paper(one, other, bent), False)

    def test_rows_that_no_run_comes_to_may_stand_in_a_paper(self):
        one = Rows(3, 1, {"main": (0, [("read", 0), ("print", 0), ("end",), ("read", 0), ("go", 1)])})
        paper = alike_paper(one, one)
        place = ((), "main", 3)
        more = {**paper, (place, place): [({"#0": 0}, {"#0": 0})]}
        self.assertIs(is_alike_paper(one, one, more), True)
        self.assertIs(is_alike_paper(one, one, {**paper, (place, ((), "main", 0)): [({"#0": 0}, {"#0": 2})]}), True)
        other = Rows(3, 1, {"main": (0, [("read", 0), ("print", 0), ("end",), ("read", 0), ("go", 0)])})
        self.assertIs(is_alike_paper(one, other, {**alike_paper(one, other), (place, place): [({"#0": 0}, {"#0": 0})]}), False)

    def test_papers_of_engines_that_end_at_once(self):
        none = Program(5, [], [], ([], [("print", "a", {"": 2})]))
        same = Rows(5, 1, {"main": (0, [("set", 0, 2), ("print", 0), ("end",)])})
        self.assertEqual(alike_paper(none, same), {})
        self.assertIs(is_alike_paper(none, same, {}), True)
        for bad in [[], (), None, 0, "", False]:
            self.assertIs(is_alike_paper(none, same, bad), False)
        self.assertIs(is_alike_paper(none, Rows(5, 1, {"main": (0, [("set", 0, 1), ("print", 0), ("end",)])}), {}), False)

    def test_letters_of_all_choices(self):
        three = Program(5, ["x"], [], ([], [("pick", "p", [([], []), ([], []), ([], [("print", "a", {"": 1})])])]))
        two = Program(5, ["x"], [], ([], [("pick", "p", [([], []), ([], []), ([], [("print", "a", {"": 2})])])]))
        self.assertIs(is_alike_paper(three, two, {(("p",), ("p",)): [({"x": 0}, {"x": 0})]}), False)
        self.assertIs(is_alike_paper(three, three, {(("p",), ("p",)): [({"x": 0}, {"x": 0})]}), True)
