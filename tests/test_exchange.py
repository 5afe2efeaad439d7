"""Points 95 to 100: states that fit, rules of exchange, missed stops, papers, sure rules, chained rules."""

import itertools
import random
import unittest

from tests.beside import Beside, all_beside
from tests.brute import Engine
from tests.checks import Checks, bent_ones
from tests.odd import odd_objects
from tests.stock import Stock, chance_stock
from tests.test_benches import bad_marks
from tests.test_pieces import out_of_order_bench
from tests.woven import woven_stock
from truestops.benches import Bench
from truestops.errors import (
    InvalidBench,
    InvalidLinks,
    InvalidPrime,
    InvalidRule,
    InvalidSeat,
    InvalidState,
    InvalidSum,
    NeverPassed,
    Stray,
    Uneven,
    UnknownHolder,
    UnknownMark,
    UnknownStop,
    UnlikePrimes,
)
from truestops.exchange import (
    chained,
    exchange_rule,
    fits,
    is_exchange_rule,
    is_sure_rule,
    is_why_no_exchange,
    missed,
    sure_rule,
    why_no_exchange,
)
from truestops.making import made
from truestops.numbers import solved
from truestops.programs import Program
from truestops.reading import read_rule
from truestops.rows import Rows
from truestops.spans import is_mixture

NOUGHT, ONE, ON, OFF = ("number", 0), ("number", 1), ("choice", 1), ("choice", 0)
M, N, S = ("m", ()), ("n", ()), ("s",)


def echo(prime=5):
    return Program(prime, ["a", "b"], [], ([], [("read", "q", "a"), ("read", "r", "b"), ("pass", "s"), ("print", "t", {"a": 1, "b": 1})]))


def lone(prime=5):
    rows = [("read", 0), ("read", 1), ("add", 0, 1), ("set", 1, 0), ("mark", "m", [("s",)]), ("print", 0), ("end",)]
    return (Bench(echo(prime), Rows(prime, 2, {"main": (0, rows)})), M, S)


def pair(prime=5):
    rows = [("read", 0), ("read", 1), ("mark", "n", [("s",)]), ("add", 1, 0), ("print", 1), ("end",)]
    return (Bench(echo(prime), Rows(prime, 2, {"main": (0, rows)})), N, S)


def next_one(prime=5):
    some = Program(prime, ["x"], [], ([], [("read", "u", "x"), ("pass", "v"), ("print", "w", {"x": 1})]))
    return (Bench(some, Rows(prime, 1, {"main": (0, [("read", 0), ("mark", "k", [("v",)]), ("print", 0), ("end",)])})), ("k", ()), ("v",))


def far_seats():
    """Rows that keep x, and rows that keep it nowhere once it was printed, for a program that prints it twice."""
    program = Program(5, ["x"], [], ([], [("read", "a", "x"), ("pass", "s"), ("again", "w", ([], [("print", "p", {"x": 1})]))]))
    one = [("read", 0), ("mark", "m", [("s",)]), ("pick", [5, 3]), ("print", 0), ("go", 2), ("end",)]
    return (Bench(program, Rows(5, 1, {"main": (0, one)})), M, S)


class Both:
    """Two benches of one program: rows that hold less, and rows made of it."""

    def __init__(self, stock):
        self.stock = stock
        rows = made(stock.bench.program())
        self.made = Stock(stock.one, Engine((stock.prime, 3, rows.units()), False), 2, 2)

    def seats(self, chance):
        """Two besides with one stop, from one of the benches and from the other one, or from one twice."""
        first, second = chance.choice([(self.stock, self.made), (self.made, self.stock), (self.stock, self.stock)])
        ones, others = all_beside(first), all_beside(second)
        chance.shuffle(ones)
        for one in ones:
            for other in others:
                if one.stop == other.stop:
                    return one, other
        return None


def seat_of(beside):
    return (beside.stock.bench, beside.mark, beside.stop)


def state_from(beside, stir, change):
    """The state of a run, stirred, as a seat tells it."""
    _, variables, holders = beside.runs[0]
    state = dict(zip(beside.variables, variables)) | dict(zip(beside.holders, holders))
    for name, n in list(stir.items()) + list(change.items()):
        state[name] = (state[name] + n) % beside.prime
    return state


def goes_on_alike(beside, state, most):
    """Whether both print alike in this state along goings-on of so many letters."""
    inputs, variables, holders = beside.runs[0]
    stir = {name: state[name] - n for name, n in zip(beside.variables, variables)}
    change = {name: state[name] - n for name, n in zip(beside.holders, holders)}
    return all(a == b for g in beside.goings_on(most) for a, b in beside.told(inputs, g, stir, change))


def all_states(beside):
    names = beside.variables + beside.holders
    for numbers in itertools.product(range(beside.prime), repeat=len(names)):
        yield dict(zip(names, numbers))


def some_state(chance, beside):
    return {name: chance.randrange(beside.prime) for name in beside.variables + beside.holders}


class Point95(Checks):
    def test_all_states_of_few_holders(self):
        told = {True: 0, False: 0}
        for stock in woven_stock(range(80), 2, 2, 2):
            for beside in all_beside(stock)[:2]:
                for state in itertools.islice(all_states(beside), 0, None, 3):
                    fine = fits(seat_of(beside), state)
                    told[fine] += 1
                    program_part = {name: state[name] for name in beside.variables}
                    mixed = is_mixture(stock.bench.program(), beside.stop, program_part)
                    alike = mixed and goes_on_alike(beside, state, 3)
                    # What few letters do not show may show behind more of them.
                    self.assertEqual(fine, alike and (fine or goes_on_alike(beside, state, 7)), (beside.stop, state))
        self.assertGreater(min(told.values()), 100)

    def test_runs_and_mixtures_of_them_fit(self):
        for prime in [2, 3, 5, 65537]:
            chance = random.Random(prime)
            for stock in woven_stock(range(40), prime, 2, 2):
                for beside in all_beside(stock):
                    states = [dict(zip(beside.variables, variables)) | dict(zip(beside.holders, holders)) for _, variables, holders in beside.runs]
                    factors = [chance.randrange(prime) for _ in states[1:]]
                    factors.append((1 - sum(factors)) % prime)
                    mixed = {name: sum(factor * state[name] for factor, state in zip(factors, states)) % prime for name in states[0]}
                    self.assertTrue(fits(seat_of(beside), states[-1]))
                    self.assertTrue(fits(seat_of(beside), mixed))
                    self.assertTrue(fits(seat_of(beside), dict(reversed(mixed.items()))))

    def test_states_bent_in_one_number(self):
        # Here even the first run has numbers that are not 0.
        told = {True: 0, False: 0}
        for prime in [3, 5]:
            chance = random.Random(prime)
            for stock in woven_stock(range(60), prime, 3, 2, 0.6, True):
                for beside in all_beside(stock):
                    _, variables, holders = chance.choice(beside.runs)
                    state = dict(zip(beside.variables, variables)) | dict(zip(beside.holders, holders))
                    for name in chance.sample(sorted(state), 3):
                        bent = {**state, name: (state[name] + 1) % prime}
                        fine = fits(seat_of(beside), bent)
                        program_part = {own: bent[own] for own in beside.variables}
                        mixed = is_mixture(stock.bench.program(), beside.stop, program_part)
                        alike = mixed and goes_on_alike(beside, bent, 3)
                        self.assertEqual(fine, alike and (fine or goes_on_alike(beside, bent, 7)))
                        told[fine] += 1
        self.assertGreater(min(told.values()), 50)

    def test_plain_ones(self):
        for prime in [2, 3, 5, 65537]:
            self.assertTrue(fits(lone(prime), {"#0": 1, "#1": 1, "a": 1, "b": 0}))
            self.assertFalse(fits(lone(prime), {"#0": 0, "#1": 1, "a": 1, "b": 0}))
        self.assertTrue(fits(lone(), {"#0": 3, "#1": 4, "a": 1, "b": 2}))
        self.assertFalse(fits(pair(), {"#0": 0, "#1": 2, "a": 1, "b": 2}))
        self.assertTrue(fits(pair(), {"#0": 0, "#1": 3, "a": 1, "b": 2}))
        # Rows that hold one more than the sum until it is printed.
        rows = [("read", 0), ("read", 1), ("add", 0, 1), ("set", 1, 0), ("more", 0, 1), ("mark", "m", [("s",)]), ("more", 0, 4), ("print", 0), ("end",)]
        more = (Bench(echo(), Rows(5, 2, {"main": (0, rows)})), M, S)
        self.assertEqual([fits(more, {"#0": n, "#1": 2, "a": 1, "b": 2}) for n in range(5)], [False, False, False, False, True])
        self.assertEqual(exchange_rule(lone(), more, None)["#0"], {"": 1, "#0": 1})
        self.assertEqual(exchange_rule(more, lone(), None)["#0"], {"": 4, "#0": 1})
        self.assertEqual(sure_rule(more, {"a": 1, "b": 1}), {"": 4, "#0": 1})
        # The program's part has to be a mixture of what it comes to: here y is always 0, whatever prints alike.
        program = Program(5, ["x", "y"], [], ([], [("read", "a", "x"), ("pass", "s"), ("print", "b", {"x": 1})]))
        seat = (Bench(program, Rows(5, 1, {"main": (0, [("read", 0), ("mark", "m", [("s",)]), ("print", 0), ("end",)])})), M, S)
        self.assertTrue(fits(seat, {"#0": 3, "x": 3, "y": 0}))
        self.assertFalse(fits(seat, {"#0": 3, "x": 3, "y": 1}))

    def test_states_that_are_none(self):
        bad = odd_objects() + [{"#0": 3, "#1": 4, "a": 1}, {"#0": 3, "#1": 4, "a": 1, "b": 5}, {"#0": 3, "#1": 4, "a": 1, "b": 2, "c": 0}, {"#0": True, "#1": 4, "a": 1, "b": 2}, {"#0": 3, "#1": 4, "a": 1, "c": 2}]
        self.refused_all(InvalidState, bad, fits, lone(), None, at=1)


class Point96(Checks):
    def test_rules_with_equal_programs_against_runs(self):
        told = {True: 0, False: 0}
        for prime in [2, 3, 5, 65537]:
            chance = random.Random(prime)
            for stock in list(woven_stock(range(50), prime, 2, 2)) + list(chance_stock(range(50), prime, 2, 2)):
                found = Both(stock).seats(chance)
                if found is not None:
                    one, other = found
                    rule = exchange_rule(seat_of(one), seat_of(other), None)
                    paper = why_no_exchange(seat_of(one), seat_of(other), None)
                    self.assertEqual(rule is None, paper is not None)
                    told[rule is None] += 1
                    if missed(seat_of(other)) is None:
                        self.assertIsNotNone(rule)
                    links = {name: {name: 1} for name in other.variables}
                    self.assertEqual(rule, exchange_rule(seat_of(one), seat_of(other), links))
                    self.check(chance, one, other, links, rule, paper)
        self.assertGreater(told[False], 50)

    def test_rules_by_links_against_runs(self):
        told = {}
        for prime in [2, 3, 5, 65537]:
            chance = random.Random(prime)
            stocks = [stock for stock in woven_stock(range(60), prime, 2, 2) if all_beside(stock)]
            for _ in range(150):
                one, other = [chance.choice(all_beside(chance.choice(stocks))) for _ in range(2)]
                links = {name: self.some_sum(chance, prime, one.variables) for name in other.variables}
                rule = exchange_rule(seat_of(one), seat_of(other), links)
                paper = why_no_exchange(seat_of(one), seat_of(other), links)
                self.assertEqual(rule is None, paper is not None)
                key = None if paper is None else paper[0]
                told[key] = told.get(key, 0) + 1
                self.check(chance, one, other, links, rule, paper)
        self.assertGreater(min(told[None], told["behind"], told["ahead"]), 10)

    def some_sum(self, chance, prime, names):
        wanted = {name: chance.randrange(prime) for name in chance.sample(names + [""], chance.randint(0, 2))}
        return {name: n for name, n in wanted.items() if n}

    def worth(self, wanted, state, prime):
        return sum(n * (state[name] if name else 1) for name, n in wanted.items()) % prime

    def there(self, other, links, state, rule):
        """The state at the other seat that links and a rule make of one."""
        found = {name: self.worth(links[name], state, other.prime) for name in other.variables}
        return found | {name: self.worth(rule.get(name, {}), state, other.prime) for name in other.holders}

    def fitting_ones(self, chance, one, many):
        """States that fit, gone to from that of a run by the idle ways of both."""
        found = [dict(zip(one.variables, variables)) | dict(zip(one.holders, holders)) for _, variables, holders in one.runs[:many]]
        for _ in range(20):
            state = some_state(chance, one)
            if one.prime < 5 and fits(seat_of(one), state):
                found.append(state)
        return found

    def check(self, chance, one, other, links, rule, paper):
        if rule is not None:
            self.assertTrue(is_exchange_rule(seat_of(one), seat_of(other), links, rule))
            self.assertEqual(list(rule), other.holders)
            for state in self.fitting_ones(chance, one, 4):
                self.assertTrue(goes_on_alike(other, self.there(other, links, state, rule), 2))
        else:
            self.assertTrue(is_why_no_exchange(seat_of(one), seat_of(other), links, paper))
            self.assertTrue(self.paper_holds(one, other, links, paper))

    def paper_holds(self, one, other, links, paper):
        prime = one.prime
        if paper[0] == "behind":
            _, state, numbers = paper
            there = self.there(other, links, state, {})
            rows = [0] * len(other.holders)
            left = 0
            for going_on, position, factor in numbers:
                self.assertTrue(0 < factor < prime)
                _, theirs = other.hangs(going_on)[position]
                rows = [(a + factor * b) % prime for a, b in zip(rows, theirs)]
                number, due = self.told_at(other, there, going_on)[position]
                left += factor * (number - due)
            return fits(seat_of(one), state) and not any(rows) and left % prime != 0
        _, states, going_on, position = paper
        known = {name: sum(factor * state[name] for state, factor in states) % prime for name in one.holders}
        numbers = [self.told_at(other, self.there(other, links, state, {}), going_on)[position][1] for state, _ in states]
        if any(known.values()) or sum(factor for _, factor in states) % prime or not all(fits(seat_of(one), state) for state, _ in states):
            return False
        return sum(factor * n for (_, factor), n in zip(states, numbers)) % prime != 0

    def told_at(self, other, state, going_on):
        inputs, variables, holders = other.runs[0]
        stir = {name: state[name] - n for name, n in zip(other.variables, variables)}
        change = {name: state[name] - n for name, n in zip(other.holders, holders)}
        return other.told(inputs, going_on, stir, change)

    def test_all_rules_of_few_holders(self):
        # A rule is right exactly if it is so from EVERY state that fits, not from those of runs alone.
        chance, seen = random.Random(1), {True: 0, False: 0}
        stocks = [stock for stock in woven_stock(range(40), 2, 2, 2) if all_beside(stock)]
        for _ in range(12):
            one, other = [chance.choice(all_beside(chance.choice(stocks))) for _ in range(2)]
            links = {name: self.some_sum(chance, 2, one.variables) for name in other.variables}
            states = [state for state in all_states(one) if fits(seat_of(one), state)]
            keys = one.holders + [""]
            right = []
            for factors in itertools.product(itertools.product(range(2), repeat=len(keys)), repeat=len(other.holders)):
                rule = {name: {key: n for key, n in zip(keys, vector) if n} for name, vector in zip(other.holders, factors)}
                fine = is_exchange_rule(seat_of(one), seat_of(other), links, rule)
                seen[fine] += 1
                right += [rule] if fine else []
                if chance.random() < 0.3:
                    alike = all(goes_on_alike(other, self.there(other, links, state, rule), 3) for state in chance.sample(states, min(6, len(states))))
                    self.assertLessEqual(fine, alike)
            found = exchange_rule(seat_of(one), seat_of(other), links)
            self.assertEqual(found is None, not right)
            self.assertTrue(found is None or {name: {k: n for k, n in sorted(wanted.items())} for name, wanted in found.items()} in right)
        self.assertGreater(min(seen.values()), 20)

    def test_right_in_every_state_that_fits(self):
        # In each run of the lone rows box 1 holds 0; states that fit may hold anything there.
        here, there = lone(), pair()
        self.assertEqual(exchange_rule(there, here, None)["#0"], {"#0": 1, "#1": 1})
        self.assertTrue(is_exchange_rule(there, here, None, {"#0": {"#0": 1, "#1": 1}, "#1": {"": 3, "#0": 2}}))
        self.assertTrue(is_exchange_rule(here, there, None, {"#0": {"#0": 1}, "#1": {}}))
        self.assertTrue(is_exchange_rule(here, there, None, {"#0": {"#0": 1, "#1": 1}, "#1": {"#1": 4}}))
        self.assertFalse(is_exchange_rule(here, there, None, {"#0": {"#0": 1}, "#1": {"#1": 1}}))
        self.assertFalse(is_exchange_rule(here, here, None, {"#0": {"#0": 1, "#1": 1}, "#1": {}}))
        self.assertTrue(is_exchange_rule(here, here, None, {"#0": {"#0": 1}, "#1": {}}))

    def test_bent_rules(self):
        here, there = lone(), next_one()
        links, right = {"x": {"a": 1, "b": 1}}, {"#0": {"#0": 1}}
        self.assertTrue(is_exchange_rule(here, there, links, right))
        for bent in bent_ones(right) + odd_objects() + [None, {"#0": {"a": 1, "b": 1}}, {"#0": {"#0": 1, "": 1}}, {"#0": {"#0": 1}, "#1": {}}, {"#0": {"#0": 1, "#1": 1}}, {"#0": [("#0", 1)]}]:
            self.assertFalse(is_exchange_rule(here, there, links, bent), bent)
        self.assertEqual(exchange_rule(here, there, {"x": {"a": 3, "": 2, "b": 3}}), {"#0": {"": 2, "#0": 3}})
        self.assertEqual(exchange_rule(here, there, {"x": {}}), {"#0": {}})
        self.assertEqual(exchange_rule(here, there, {"x": {"": 4}}), {"#0": {"": 4}})
        self.unhurt(exchange_rule, here, there, links)

    def test_links_that_are_none(self):
        here, there = lone(), next_one()
        bad = odd_objects() + [{"x": {}, "y": {}}, {"y": {}}, {"x": {"x": 1}}, {"x": {"#0": 1}}, {"x": {"a": 0}}, {"x": {"a": 5}}, {"x": None}, {"x": [("a", 1)]}]
        bad = [thing for thing in bad if thing != {"x": {}}]
        for function, more in [(exchange_rule, []), (is_exchange_rule, [{}]), (why_no_exchange, []), (is_why_no_exchange, [None])]:
            self.refused_all(InvalidLinks, bad, function, here, there, None, *more, at=2)
            self.refused(InvalidLinks, None, function, here, there, None, *more)
            self.refused(InvalidLinks, {"a": {"a": 1}}, function, here, pair(), {"a": {"a": 1}}, *more)
        # None asks for equal programs and one stop.
        other = (Bench(echo(), Rows(5, 2, {"main": (0, [("read", 0), ("read", 1), ("add", 0, 1), ("mark", "m", [("t",)]), ("print", 0), ("end",)])})), M, ("t",))
        self.refused(InvalidLinks, None, exchange_rule, here, other, None)
        self.assertEqual(exchange_rule(here, other, {"a": {"a": 1}, "b": {"b": 1}})["#0"], {"#0": 1})

    def test_loops(self):
        seat = far_seats()
        self.assertEqual(exchange_rule(seat, seat, None), {"#0": {"#0": 1}})
        self.assertEqual(exchange_rule(seat, seat, {"x": {"x": 2, "": 1}}), {"#0": {"": 1, "#0": 2}})


class Point97(Checks):
    def test_against_runs(self):
        told = {True: 0, False: 0}
        for prime in [2, 3]:
            for stock in woven_stock(range(60), prime, 3, 1):
                for beside in all_beside(stock):
                    found = missed(seat_of(beside))
                    runs = [inputs for inputs, mine, theirs in stock.known if mine.at(beside.stop) and not theirs.at(beside.mark)]
                    told[found is None] += 1
                    if runs:
                        self.assertEqual(found, runs[0])
                    elif found is not None:
                        self.assertGreater(len(found), 3)
        self.assertGreater(told[True], 100)

    def test_a_mark_on_one_way_alone(self):
        program = Program(5, ["x"], [], ([], [("read", "a", "x"), ("pick", "k", [([], []), ([], [("pass", "b")])]), ("pass", "s"), ("print", "p", {"x": 1})]))
        rows = [("read", 0), ("pick", [2, 4]), ("mark", "m", [("s",)]), ("print", 0), ("end",)]
        one = (Bench(program, Rows(5, 1, {"main": (0, rows[:1] + [("pick", [2, 3])] + rows[2:])})), M, S)
        self.assertEqual(missed(one), [NOUGHT, ON])
        self.assertIsNone(missed(lone()))
        self.assertIsNone(missed(next_one()))
        self.unhurt(missed, one)
        looped = Program(5, ["x"], [], ([], [("again", "w", ([], [("read", "r", "x"), ("pass", "s")])), ("print", "p", {"x": 1})]))
        written = [("pick", [8, 1]), ("read", 0), ("mark", "m", [("s",)]), ("pick", [8, 4]), ("read", 0), ("pick", [8, 6]), ("read", 0), ("go", 3), ("print", 0), ("end",)]
        seat = (Bench(looped, Rows(5, 1, {"main": (0, written)})), M, S)
        self.assertEqual(missed(seat), [ON, NOUGHT, ON, NOUGHT])
        self.assertIsNotNone(exchange_rule(seat, seat, None))


class Point98(Checks):
    def test_papers_bent(self):
        here, there = lone(), next_one()
        lots = [({"#0": 1, "#1": 0, "a": 1, "b": 0}, 1), ({"#0": 1, "#1": 0, "a": 0, "b": 1}, 4)]
        ahead = ("ahead", lots, [], 0)
        links = {"x": {"a": 1}}
        self.assertTrue(is_why_no_exchange(here, there, links, ahead))
        self.assertFalse(is_why_no_exchange(here, there, {"x": {"a": 1, "b": 1}}, ahead))
        self.assertTrue(is_why_no_exchange(here, there, links, ("ahead", lots[::-1], [], 0)))
        self.assertTrue(is_why_no_exchange(here, there, links, ("ahead", lots + lots, [], 0)))
        self.assertTrue(is_why_no_exchange(here, there, links, ("ahead", [(lots[0][0], 3), (lots[1][0], 2)], [], 0)))
        for bent in bent_ones(ahead) + odd_objects() + [None, ahead + (1,), ahead[:3], ("ahead", [], [], 0), ("ahead", lots, [], 1), ("ahead", lots, [OFF], 0), ("behind", lots, [], 0)]:
            if bent not in [("ahead", lots[::-1], [], 0), ("ahead", lots + lots[:1], [], 0)]:
                self.assertFalse(is_why_no_exchange(here, there, links, bent), bent)
        self.assertFalse(is_why_no_exchange(here, there, links, ("ahead", [({"#0": 2, "#1": 0, "a": 1, "b": 0}, 1), ({"#0": 2, "#1": 0, "a": 0, "b": 1}, 4)], [], 0)))

    def test_factors_have_to_add_up_to_nothing(self):
        here, there, links = lone(2), next_one(2), {"x": {"a": 1}}
        one, other = [{"#0": 0, "#1": 0, "a": n, "b": n} for n in (1, 0)]
        self.assertTrue(is_why_no_exchange(here, there, links, ("ahead", [(one, 1), (other, 1)], [], 0)))
        self.assertFalse(is_why_no_exchange(here, there, links, ("ahead", [(one, 1)], [], 0)))
        # A rule may have a constant, so states of one kind alone show nothing.
        self.assertFalse(is_why_no_exchange(lone(3), next_one(3), links, ("ahead", [({**one, "b": 2}, 1), ({**one, "b": 2}, 1)], [], 0)))

    def test_papers_from_behind(self):
        # The other rows print one box twice, where the linked program prints two numbers.
        twin = Program(5, ["x", "y"], [], ([], [("read", "u", "x"), ("set", "e", "y", {"x": 1}), ("pass", "v"), ("print", "w", {"x": 1}), ("print", "z", {"y": 1, "": 2})]))
        rows = [("read", 0), ("mark", "k", [("v",)]), ("print", 0), ("more", 0, 2), ("print", 0), ("end",)]
        there = (Bench(twin, Rows(5, 1, {"main": (0, rows)})), ("k", ()), ("v",))
        here = next_one()
        links = {"x": {"x": 1}, "y": {"x": 1, "": 1}}
        state = {"#0": 3, "x": 3}
        paper = ("behind", state, [([], 0, 1), ([], 1, 4)])
        self.assertIsNone(exchange_rule(here, there, links))
        self.assertTrue(is_why_no_exchange(here, there, links, paper))
        self.assertFalse(is_why_no_exchange(here, there, {"x": {"x": 1}, "y": {"x": 1}}, paper))
        self.assertEqual(exchange_rule(here, there, {"x": {"x": 1}, "y": {"x": 1}}), {"#0": {"#0": 1}})
        self.assertTrue(is_why_no_exchange(here, there, links, ("behind", {"x": 0, "#0": 0}, [([], 1, 2), ([], 0, 3)])))
        for bent in bent_ones(paper) + [("behind", {"#0": 3, "x": 2}, paper[2]), ("behind", state, []), ("behind", state, [([], 0, 1)]), ("behind", state, paper[2], 1)]:
            if bent != ("behind", state, paper[2][::-1]):
                self.assertFalse(is_why_no_exchange(here, there, links, bent), bent)
        self.unhurt(why_no_exchange, here, there, links)
        self.unhurt(why_no_exchange, lone(), here, {"x": {"a": 1}})
        self.assertIsNone(why_no_exchange(lone(), here, {"x": {"a": 1, "b": 1}}))


class Point99(Checks):
    def test_against_all_states_that_fit(self):
        less = {True: 0, False: 0}
        for stock in woven_stock(range(120), 2, 2, 2):
            for beside in all_beside(stock)[:2]:
                states = [state for state in all_states(beside) if fits(seat_of(beside), state)]
                for wanted in [{"w": 1}, {"ax": 1}, {"ax": 1, "ay": 1, "": 1}, {"bx": 1, "w": 1}, {}]:
                    numbers = [sum(n * (state[name] if name else 1) for name, n in wanted.items()) % 2 for state in states]
                    columns = [[state[name] for state in states] for name in beside.holders] + [[1] * len(states)]
                    rule = sure_rule(seat_of(beside), wanted)
                    self.assertEqual(rule is None, solved(2, columns, numbers) is None)
                    plain = read_rule(stock.bench, beside.mark, beside.stop, wanted)
                    self.assertTrue(rule is None or plain is not None)
                    less[rule is None and plain is not None] += 1
                    if rule is not None:
                        self.assertTrue(is_sure_rule(seat_of(beside), wanted, rule))
                        self.assertEqual(numbers, [sum(n * (state[name] if name else 1) for name, n in rule.items()) % 2 for state in states])
                    for value in [{}, {"#0": 1}, {"#1": 1}, {"": 1}, {"#0": 1, "#1": 1}]:
                        told = [sum(n * (state[name] if name else 1) for name, n in value.items()) % 2 for state in states]
                        self.assertEqual(is_sure_rule(seat_of(beside), wanted, value), told == numbers)
        self.assertGreater(min(less.values()), 10)

    def test_a_rule_that_is_not_sure(self):
        # Box 1 keeps y, which is printed nowhere more: a rule of runs, and no sure one.
        program = Program(5, ["x", "y"], [], ([], [("read", "a", "x"), ("read", "b", "y"), ("pass", "s"), ("print", "c", {"x": 1})]))
        seat = (Bench(program, Rows(5, 2, {"main": (0, [("read", 0), ("read", 1), ("mark", "m", [("s",)]), ("print", 0), ("end",)])})), M, S)
        self.assertEqual(read_rule(seat[0], M, S, {"y": 1}), {"#1": 1})
        self.assertIsNone(sure_rule(seat, {"y": 1}))
        self.assertFalse(is_sure_rule(seat, {"y": 1}, {"#1": 1}))
        self.assertEqual(sure_rule(seat, {"x": 2, "": 1}), {"": 1, "#0": 2})
        self.assertTrue(is_sure_rule(lone(), {"a": 2, "b": 2}, {"#0": 2}))
        self.assertFalse(is_sure_rule(lone(), {"a": 2, "b": 2}, {"#0": 2, "#1": 1}))
        for value in odd_objects() + [{"#0": 2, "#2": 1}, {"#0": 2, "": 0}, {"#0": 7}, {"a": 2, "b": 2}, [("#0", 2)]]:
            self.assertFalse(is_sure_rule(lone(), {"a": 2, "b": 2}, value), value)
        # What is 0 in all runs is sure if it counts nowhere else.
        self.assertEqual(sure_rule(lone(), {}), {})
        self.unhurt(sure_rule, lone(), {"a": 2, "b": 2})

    def test_sums_that_are_none(self):
        for function, more in [(sure_rule, []), (is_sure_rule, [{}])]:
            self.refused_all(InvalidSum, [thing for thing in odd_objects() if type(thing) is not dict] + [{"a": 0}, {"a": 5}, {1: 1}], function, lone(), None, *more, at=1)
            self.refused(UnknownHolder, "#0", function, lone(), {"a": 1, "x": 1, "#0": 1, "": 1}, *more)


class Point100(Checks):
    def test_chained_there_and_back(self):
        for prime in [2, 3, 5, 65537]:
            chance = random.Random(prime)
            for stock in woven_stock(range(30), prime, 2, 2):
                found = Both(stock).seats(chance)
                if found is not None:
                    one, other = [seat_of(beside) for beside in found]
                    there, back = exchange_rule(one, other, None), exchange_rule(other, one, None)
                    if there is not None and back is not None:
                        self.assertTrue(is_exchange_rule(one, one, None, chained(prime, there, back)))
                        self.assertTrue(is_exchange_rule(other, other, None, chained(prime, back, there)))
                        self.assertTrue(is_exchange_rule(one, other, None, chained(prime, there, chained(prime, back, there))))

    def test_plain_ones(self):
        self.assertEqual(chained(5, {"#0": {"": 2}, "#1": {"#0": 1}}, {"#0": {"#0": 1, "#1": 3}}), {"#0": {"": 2, "#0": 3}})
        self.assertEqual(chained(5, {"#0": {"": 2, "#3": 1}}, {"#1": {"": 1, "#0": 2}, "#0": {}}), {"#0": {}, "#1": {"#3": 2}})
        self.assertEqual(list(chained(5, {"#0": {"": 2, "#3": 1}}, {"#1": {"": 1, "#0": 2}, "#0": {"#0": 1}})), ["#0", "#1"])
        self.assertEqual(list(chained(5, {"#0": {"": 2, "#3": 1}}, {"#0": {"#0": 1}})["#0"]), ["", "#3"])
        self.assertEqual(chained(3, {"@0.1": {"@1.0": 2}, "#12": {}}, {"@12.0": {"@0.1": 2, "#12": 1, "": 1}}), {"@12.0": {"": 1, "@1.0": 1}})
        self.assertEqual(chained(2, {"#0": {"#0": 1}, "#1": {"#0": 1}}, {"#0": {"#0": 1, "#1": 1}}), {"#0": {}})
        self.assertEqual(chained(2, {}, {}), {})
        self.unhurt(chained, 5, {"#0": {"": 2}, "#1": {"#0": 1}}, {"#0": {"#0": 1, "#1": 3}})

    def test_errors(self):
        self.refused_all(InvalidPrime, [0, 1, 4, -5, True, None, "5", [], 65539], chained, None, {}, {}, at=0)
        bad = [thing for thing in odd_objects() if thing != {}] + [{"#0": {"x": 1}}, {"#0": {"#0": 0}}, {"#0": {"#0": 5}}, {"#00": {}}, {"#": {}}, {"@1": {}}, {"@1.": {}}, {"@01.0": {}}, {"@.0": {}}, {"@0.1.2": {}}, {"#0.1": {}}, {"": {}}, {"#0": 1}, {"#0": {"#01": 1}}, {"#0": {"": 0}}, {"#0": {"#0": True}}]
        self.refused_all(InvalidRule, bad, chained, 5, None, {"#0": {}}, at=1)
        self.refused_all(InvalidRule, bad + [{"#0": {"#1": 1}}, {"#0": {}, "#1": {"#0": 1, "@0.0": 1}}], chained, 5, {"#0": {}}, None, at=2)


class Seats(Checks):
    def every(self):
        return [(fits, [{}]), (missed, []), (sure_rule, [{}]), (is_sure_rule, [{}, {}])]

    def pairs(self):
        return [(exchange_rule, [None]), (is_exchange_rule, [None, {}]), (why_no_exchange, [None]), (is_why_no_exchange, [None, None])]

    def test_seats_that_are_none(self):
        three = [thing for thing in odd_objects() if type(thing) is tuple and len(thing) == 3]
        bad = [thing for thing in odd_objects() if thing not in three] + [list(lone()), lone()[:2], lone() + (1,)]
        for function, more in self.every():
            self.refused_all(InvalidSeat, bad, function, None, *more, at=0)
            self.parts(lambda seat: (function, [seat] + more))
        for function, more in self.pairs():
            self.refused_all(InvalidSeat, bad, function, None, 7, *more, at=0)
            self.refused_all(InvalidSeat, bad, function, lone(), None, *more, at=1)
            self.parts(lambda seat: (function, [seat, 7] + more))
            self.parts(lambda seat: (function, [lone(), seat] + more))

    def parts(self, call):
        bench, mark, stop = lone()
        trials = [(InvalidBench, (thing, 7, 7), thing) for thing in odd_objects()] + [(UnknownMark, (bench, thing, 7), thing) for thing in odd_objects()]
        trials += [(UnknownStop, (bench, mark, thing), thing) for thing in odd_objects()]
        marks = [(("n", ()), NeverPassed), (("s", ()), Stray), (("u", ()), Uneven)]
        trials += [(kind, (bad_marks(), mark, 7), mark) for mark, kind in marks]
        for kind, seat, value in trials:
            function, args = call(seat)
            with self.assertRaises(kind) as caught:
                function(*args)
            self.assertIs(caught.exception.value, value)

    def test_unlike_primes(self):
        for function, more in self.pairs():
            self.refused_all(UnlikePrimes, [lone(3), next_one(2)], function, lone(), None, *more, at=1)

    def test_marks_need_not_be_in_order(self):
        bench = out_of_order_bench()
        seat = (bench, ("m", ()), ("c",))
        self.assertTrue(fits(seat, {"#0": 0, "x": 3}))
        self.assertIsNone(missed(seat))
        self.assertIsNotNone(exchange_rule(seat, seat, None))

    def test_names(self):
        here, there, links = lone(), next_one(), {"x": {"a": 1, "b": 1}}
        lots = [({"#0": 1, "#1": 0, "a": 1, "b": 0}, 1), ({"#0": 1, "#1": 0, "a": 0, "b": 1}, 4)]
        self.same_by_names(fits, one=here, state={"#0": 3, "#1": 4, "a": 1, "b": 2})
        self.same_by_names(exchange_rule, one=here, other=there, links=links)
        self.same_by_names(is_exchange_rule, one=here, other=there, links=links, value={"#0": {"#0": 1}})
        self.same_by_names(missed, one=here)
        self.same_by_names(why_no_exchange, one=here, other=there, links={"x": {"a": 1}})
        self.same_by_names(is_why_no_exchange, one=here, other=there, links={"x": {"a": 1}}, value=("ahead", lots, [], 0))
        self.same_by_names(sure_rule, one=here, wanted={"a": 1, "b": 1})
        self.same_by_names(is_sure_rule, one=here, wanted={"a": 1, "b": 1}, value={"#0": 1})
        self.same_by_names(chained, prime=5, first={"#0": {"": 2}}, second={"#0": {"#0": 1}})


if __name__ == "__main__":
    unittest.main()
