"""Points 105 to 112: dumps, sessions, what they print, read, move, put and exchange, what is taken back."""

import random
import unittest

from tests.brute import Engine
from tests.checks import Checks, bent_ones, shown
from tests.odd import odd_objects
from tests.sessionhand import Hand
from tests.stock import Stock, chance_stock
from tests.test_benches import bad_marks
from tests.test_exchange import echo, lone, pair
from tests.test_moving import joined, some_stirs
from tests.test_pieces import out_of_order_bench
from tests.woven import woven_stock
from truestops.benches import Bench
from truestops.errors import (
    InvalidBench,
    InvalidDump,
    InvalidLetter,
    InvalidLog,
    InvalidSession,
    InvalidSum,
    NotHere,
    NothingToRedo,
    NothingToUndo,
    OutOfOrder,
    Refused,
    Stray,
    Uneven,
    UnknownHolder,
    UnknownMark,
    UnknownStop,
    Unlike,
)
from truestops.exchange import exchange_rule, fits
from truestops.making import made
from truestops.programs import Program
from truestops.rewriting import calls_opened
from truestops.rows import Rows
from truestops.sessions import Session, is_dump, opened, replayed

NOUGHT, ONE, ON, OFF = ("number", 0), ("number", 1), ("choice", 1), ("choice", 0)
M, N, S = ("m", ()), ("n", ()), ("s",)


def both():
    """The sum of two variables is kept, and neither of them."""
    program = Program(5, ["x", "y"], [], ([], [("read", "a", "x"), ("read", "b", "y"), ("pass", "s"), ("print", "p", {"x": 1, "y": 1})]))
    one = [("read", 0), ("read", 1), ("add", 0, 1), ("set", 1, 0), ("mark", "m", [("s",)]), ("print", 0), ("end",)]
    return Bench(program, Rows(5, 2, {"main": (0, one)}))


def at_m(first=2, second=4):
    session = Session(both())
    session.go()
    session.answer(("number", first))
    session.go()
    session.answer(("number", second))
    session.go()
    return session


def rounds():
    """Again and again a number is read and printed; a mark ahead of the round, one ahead of the print, one at the end."""
    steps = [("again", "w", ([], [("read", "r", "x"), ("print", "p", {"x": 1})])), ("print", "z", {"x": 1})]
    rows = [("mark", "m", [("w",)]), ("pick", [6, 2]), ("read", 0), ("mark", "n", [("p",)]), ("print", 0), ("go", 0), ("mark", "o", [("z",)]), ("print", 0), ("end",)]
    return Bench(Program(5, ["x"], [], ([], steps)), Rows(5, 1, {"main": (0, rows)}))


def told_of(session):
    return shown([session.here(), session.beats(), session.would(), session.log(), session.bench().rows().units()])


class Trial:
    """A session beside its second reckoning, command by command, with what was taken back."""

    def __init__(self, case, chance, stocks):
        self.case, self.chance, self.stocks = case, chance, stocks
        self.session = Session(stocks[0].bench)
        self.past, self.now, self.future = [], Hand(stocks[0]), []

    def come_to(self, hand):
        self.past = self.past + [self.now]
        self.now, self.future = hand, []

    def same(self):
        self.case.assertEqual(self.session.here(), self.now.here())
        self.case.assertEqual(self.session.beats(), [list(beat) for beat in self.now.beats])
        self.case.assertEqual(self.session.would(), [list(beat) for beat in self.now.would])
        self.case.assertEqual(self.session.bench(), self.now.stock.bench)
        self.case.assertEqual(len(self.session.log()), len(self.past))

    def step(self, deep=0):
        words = ["go"] * 7 + ["answer"] * 6 * (self.now.kind == "asks") + ["answer", "undo", "redo"] + ["try"] * (deep < 2)
        words += ["undo"] * 8 * (self.now.kind == "end")
        words += ["read", "move", "suppose", "put", "exchange"] * 2 if self.now.kind == "mark" else []
        getattr(self, self.chance.choice(words))(deep)
        self.same()

    def refused(self, kind, function, *args):
        before = told_of(self.session)
        with self.case.assertRaises(kind):
            function(*args)
        self.case.assertEqual(told_of(self.session), before)

    def go(self, deep):
        hand = self.now.gone()
        if hand is not self.now:
            self.come_to(hand)
        self.case.assertEqual(self.session.go(), hand.here())

    def answer(self, deep):
        if self.now.kind != "asks":
            self.refused(NotHere, self.session.answer, NOUGHT)
            return
        asked = self.now.asked()
        prime = self.now.stock.prime
        letter = ("number", self.chance.randrange(prime)) if asked == ("number",) else ("choice", self.chance.randrange(asked[1]))
        self.session.answer(letter)
        self.come_to(self.now.answered(letter))

    def undo(self, deep):
        if not self.past:
            self.refused(NothingToUndo, self.session.undo)
            return
        self.case.assertIsNone(self.session.undo())
        self.future = self.future + [self.now]
        self.now, self.past = self.past[-1], self.past[:-1]

    def redo(self, deep):
        if not self.future:
            self.refused(NothingToRedo, self.session.redo)
            return
        self.case.assertIsNone(self.session.redo())
        self.past = self.past + [self.now]
        self.now, self.future = self.future[-1], self.future[:-1]

    def trial(self, deep):
        kept = (self.past, self.now, self.future)
        before = told_of(self.session)
        with self.session.trial() as told:
            self.case.assertIs(told, self.session)
            for _ in range(self.chance.randint(0, 6)):
                self.step(deep + 1)
        self.past, self.now, self.future = kept
        self.case.assertEqual(told_of(self.session), before)

    def variables(self):
        return sorted(self.now.numbers())

    def a_stir(self):
        return next(some_stirs(self.chance, self.now.stock.prime, self.variables(), 1))

    def read(self, deep):
        wanted = self.a_stir()
        if self.chance.random() < 0.4:
            wanted[""] = 1
        self.case.assertEqual(self.session.read(wanted), self.now.read(wanted))

    def move(self, deep):
        stir = self.a_stir()
        if not self.now.can_move(stir):
            self.refused(Refused, self.session.move, stir)
            return
        self.case.assertIsNone(self.session.move(stir))
        self.come_to(self.now.moved(stir, True))

    def suppose(self, deep):
        stir = self.a_stir()
        self.case.assertIsNone(self.session.suppose(stir))
        self.come_to(self.now.moved(stir, False))

    def put(self, deep):
        names = self.chance.sample(self.variables(), min(len(self.variables()), self.chance.randint(0, 2)))
        wishes = {name: self.chance.choice([0, 1, self.now.stock.prime - 1]) for name in names}
        if not self.now.can_put(names):
            self.refused(Refused, self.session.put, wishes)
            return
        self.case.assertIsNone(self.session.put(wishes))
        self.come_to(self.now.put(wishes))
        for name in names:
            self.case.assertIn(self.session.read({name: 1}), (None, wishes[name]))

    def exchange(self, deep):
        other = self.chance.choice(self.stocks)
        marks = self.now.marks_for(other)
        if marks:
            mark = self.chance.choice(marks)
            if not self.now.can_exchange(other, mark):
                self.refused(Refused, self.session.exchange, other.bench, mark)
                return
            self.case.assertIsNone(self.session.exchange(other.bench, mark))
            self.come_to(self.now.changed_to(other, mark))
            told = self.session.dump()
            self.case.assertEqual(told[0], mark)
            base = {stop: state for stop, state, _ in self.now.program().passed}[self.now.stop()]
            self.case.assertTrue(fits((other.bench, mark, self.now.stop()), {**base, **told[1]}))


setattr(Trial, "try", Trial.trial)


class AgainstRuns(Checks):
    def test_commands_by_chance(self):
        seen = {}
        for prime, seed_begins in [(2, True), (3, True), (5, True), (5, False), (65537, True)]:
            for seed, stock in enumerate(woven_stock(range(90), prime, 0, 1, 0.7, seed_begins)):
                chance = random.Random(seed)
                rows = made(stock.bench.program())
                stocks = [stock, Stock(stock.one, Engine((prime, 3, rows.units()), False), 0, 1)]
                trial = Trial(self, chance, stocks)
                for _ in range(30):
                    trial.step()
                for command in trial.session.log():
                    seen[command[0]] = seen.get(command[0], 0) + 1
                self.same_again(trial)
        self.assertEqual(sorted(seen), ["answer", "exchange", "go", "move", "put", "suppose"])
        self.assertGreater(min(seen.values()), 30)

    def test_commands_by_chance_where_there_are_calls(self):
        many = 0
        for prime in [2, 5]:
            for seed, stock in enumerate(chance_stock(range(120), prime, 0, 1)):
                if stock.bench.passings.true_seats() and self.is_runnable(stock.bench):
                    rows = made(stock.bench.program())
                    stocks = [stock] + [Stock(stock.one, Engine((prime, 3, told.units()), False), 0, 1) for told in [rows, calls_opened(rows)]]
                    trial = Trial(self, random.Random(seed), stocks)
                    for _ in range(20):
                        trial.step()
                    many += 1
        self.assertGreater(many, 60)

    def is_runnable(self, bench):
        try:
            Session(bench)
        except (Stray, Uneven, OutOfOrder):
            return False
        return True

    def same_again(self, trial):
        session = trial.session
        twin = replayed(Session(trial.stocks[0].bench), session.log())
        self.assertEqual(told_of(twin), told_of(session))
        copy = session.copy()
        self.assertEqual(told_of(copy), told_of(session))
        before = told_of(session)
        while copy.log():
            copy.undo()
        self.assertEqual(copy.here(), ("begin",))
        self.assertEqual(told_of(session), before)
        while copy.log() != session.log():
            copy.redo()
        self.assertEqual(told_of(copy), before)

    def test_dumps_opened_again(self):
        for prime in [2, 5]:
            for seed, stock in enumerate(woven_stock(range(40), prime, 0, 1, 0.8)):
                trial = Trial(self, random.Random(seed), [stock])
                for _ in range(12):
                    getattr(trial, trial.chance.choice(["go", "go", "answer"]))(0)
                    if trial.now.kind == "mark":
                        self.goes_on_alike(trial, stock)

    def goes_on_alike(self, trial, stock):
        _, mark, stop = trial.session.here()
        dump = trial.session.dump()
        self.assertEqual(dump, (mark, trial.now.rows().at(mark)[0]))
        self.assertTrue(is_dump(stock.bench, dump))
        session, hand = opened(stock.bench, dump, stop), trial.now.copy(beats=((),), would=((),))
        other = Trial(self, random.Random(1), [stock])
        other.session, other.now, other.past = session, hand, []
        for _ in range(8):
            other.step()
        while session.log():
            session.undo()
        self.assertEqual((session.here(), session.beats(), session.would(), session.dump()), (("mark", mark, stop), [[]], [[]], dump))
        self.refused_now(NothingToUndo, session.undo)

    def refused_now(self, kind, function):
        with self.assertRaises(kind):
            function()


class Point105(Checks):
    def test_dumps(self):
        bench = both()
        right = (M, {"#0": 3, "#1": 0})
        self.assertTrue(is_dump(bench, right))
        self.assertTrue(is_dump(bench, (M, {"#1": 4, "#0": 3})))
        for bent in bent_ones(right) + odd_objects() + [(N, {"#0": 3, "#1": 0}), (M, {"#0": 3}), (M, {"#0": 3, "#1": 5}), (M, {"#0": 3, "#1": 0, "x": 0}), [M, {"#0": 3, "#1": 0}], right + (1,)]:
            good = type(bent) is tuple and len(bent) == 2 and bent[0] == M and type(bent[1]) is dict and sorted(bent[1]) == ["#0", "#1"] and all(type(n) is int and 0 <= n < 5 for n in bent[1].values())
            self.assertEqual(is_dump(bench, bent), good, bent)
        # A mark that no run passes has none; a stray one has some.
        self.assertFalse(is_dump(bad_marks(), (N, {"#0": 0, "#1": 0})))
        self.assertTrue(is_dump(bad_marks(), (("s", ()), {"#0": 0, "#1": 0})))
        self.refused_all(InvalidBench, odd_objects() + [bench.rows()], is_dump, None, right, at=0)
        self.same_by_names(is_dump, bench=bench, value=right)


class Point106(Checks):
    def marked(self, rows):
        steps = [("read", "a", "x"), ("print", "b", {"x": 1}), ("pass", "c"), ("pass", "d"), ("print", "e", {"x": 1})]
        return Bench(Program(5, ["x"], [], ([], steps)), Rows(5, 1, {"main": (0, rows)}))

    def test_benches_in_order(self):
        stray, uneven, turned = ("mark", "s", [("a",)]), ("mark", "t", [("c",)]), [("mark", "v", [("d",)]), ("mark", "w", [("c",)])]
        first, last = [("read", 0)], [("print", 0), ("print", 0), ("end",)]
        dump = (("v", ()), {"#0": 1})
        for rows, kind, value in [
            (first + [uneven, stray] + last[:1] + turned + last[1:], Stray, ("s", ())), (first + [("mark", "r", [("c",)]), stray] + last[:1] + turned + last[1:], Uneven, ("r", ())),
            (first + [uneven] + last[:1] + turned + last[1:], Uneven, ("t", ())),
        ]:
            for function, more in [(Session, []), (opened, [dump, ("d",)]), (opened, [7, 7])]:
                self.refused(kind, value, function, self.marked(rows), *more)
        bench = self.marked(first + last[:1] + turned + last[1:])
        for function, more in [(Session, []), (opened, [dump, ("d",)]), (opened, [7, 7])]:
            self.refused_all(OutOfOrder, [bench], function, None, *more, at=0)
            self.refused_all(InvalidBench, odd_objects() + [bench.rows()], function, None, *more, at=0)
        # A mark that no run passes harms nothing.
        fine = self.marked(first + last[:2] + [("end",), ("mark", "n", [("a",)]), ("end",)])
        self.assertEqual(Session(fine).here(), ("begin",))

    def test_dumps_and_stops(self):
        bench = both()
        bad = odd_objects() + [(N, {"#0": 3, "#1": 0}), (M, {"#0": 3}), (M, {"#0": 3, "#1": 5}), [M, {"#0": 3, "#1": 0}]]
        self.refused_all(InvalidDump, bad, opened, bench, None, S, at=1)
        dump = (M, {"#1": 0, "#0": 3})
        self.refused_all(UnknownStop, odd_objects() + [("p",), ["s"]], opened, bench, dump, None, at=2)
        session = opened(bench, dump, S)
        self.assertIs(type(session), Session)
        self.assertEqual(session.dump(), dump)
        self.assertEqual(list(session.dump()[1]), ["#0", "#1"])
        dump[1]["#0"] = 4
        self.assertEqual(session.dump(), (M, {"#0": 3, "#1": 0}))
        self.assertIs(type(opened(stop=S, dump=dump, bench=bench)), Session)
        # A mark of several stops is opened at one of them; a stop that is passed without it is none.
        arms = joined(2)
        self.assertEqual(opened(arms, (M, {"#0": 1, "#1": 0}), ("r",)).here(), ("mark", M, ("r",)))
        self.refused(UnknownStop, ("k",), opened, arms, (M, {"#0": 1, "#1": 0}), ("k",))

    def test_where_it_stands(self):
        session = Session(rounds())
        self.assertIs(type(session), Session)
        self.assertEqual(session.bench(), rounds())
        self.assertEqual(session.here(), ("begin",))
        self.assertEqual((session.beats(), session.would()), ([[]], [[]]))
        told = [session.go(), session.go(), session.go(), session.answer(ON), session.here(), session.go(), session.go(), session.answer(("number", 3)), session.here(), session.go(), session.go()]
        w, p, z = [("mark", mark, stop) for mark, stop in [(M, ("w",)), (N, ("p",)), (("o", ()), ("z",))]]
        self.assertEqual(told, [w, ("choice", 2), ("choice", 2), None, ("given",), ("number",), ("number",), None, ("given",), p, w])
        self.assertEqual(session.beats(), [[], [], [3]])
        session.go()
        session.answer(OFF)
        self.assertEqual(session.beats(), [[], [], [3], []])
        self.assertEqual([session.go(), session.go(), session.go()], [z, ("end",), ("end",)])
        self.assertEqual(session.beats(), [[], [], [3], [3]])
        self.assertEqual(session.log(), [("go",), ("go",), ("answer", ON), ("go",), ("answer", ("number", 3)), ("go",), ("go",), ("go",), ("answer", OFF), ("go",), ("go",)])

    def test_equal_to_itself(self):
        session = Session(rounds())
        self.assertTrue(session == session)


class Point107(Checks):
    def test_letters(self):
        session = Session(rounds())
        for value in odd_objects() + [ON]:
            self.refused(NotHere, ("begin",), session.answer, value)
        session.go()
        self.refused(NotHere, ("mark", M, ("w",)), session.answer, ON)
        session.go()
        for value in odd_objects() + [("choice", 2), ("choice", -1), ("choice", True), ["choice", 1], ("choice", 1, 1), NOUGHT, ("choice",)]:
            self.refused(InvalidLetter, value, session.answer, value)
        session.answer(ON)
        self.refused(NotHere, ("given",), session.answer, ON)
        session.go()
        for value in [("number", 5), ("number", -1), ("number", None), ON, ("number", "1")]:
            self.refused(InvalidLetter, value, session.answer, value)
        self.assertIsNone(session.answer(letter=("number", 4)))
        self.assertEqual(session.log()[-1], ("answer", ("number", 4)))
        ended = at_m()
        ended.go()
        self.refused(NotHere, ("end",), ended.answer, ON)
        self.assertEqual(len(ended.log()), 6)
        ended.go()
        self.assertEqual(len(ended.log()), 6)

    def test_commands_of_marks_elsewhere(self):
        def commands(session):
            return [(session.read, [7]), (session.move, [7]), (session.suppose, [7]), (session.put, [7]), (session.exchange, [7, 7]), (session.dump, [])]
        session = Session(rounds())
        for _ in range(3):
            for function, more in commands(session) if session.here()[0] != "mark" else []:
                self.refused(NotHere, session.here(), function, *more)
            session.go()
        session.answer(ON)
        for function, more in commands(session):
            self.refused(NotHere, ("given",), function, *more)
        ended = at_m()
        ended.go()
        for function, more in commands(ended):
            self.refused(NotHere, ("end",), function, *more)

    def test_results_may_be_changed(self):
        session = at_m()
        session.move({"x": 1})
        for function in [session.beats, session.would, session.log]:
            self.unhurt(function)
        told = session.dump()
        told[1]["#0"] = 9
        self.assertEqual(session.dump(), (M, {"#0": 1, "#1": 0}))


class Points108To110(Checks):
    def test_reading(self):
        session = at_m()
        self.assertEqual([session.read({"x": 1}), session.read({"x": 1, "y": 1}), session.read({"x": 2, "y": 2, "": 3}), session.read({}), session.read({"": 4})], [None, 1, 0, 0, 4])
        session.move({"x": 1})
        session.suppose({"y": 3})
        self.assertEqual([session.read({"x": 1}), session.read({"x": 1, "y": 1}), session.read({"": 4})], [None, 0, 4])
        for value in [thing for thing in odd_objects() if type(thing) is not dict] + [{"x": 0}, {"x": 5}, {"x": True}, {1: 1}, {"": 0}]:
            self.refused(InvalidSum, value, session.read, value)
        self.refused(UnknownHolder, "#0", session.read, {"x": 1, "z": 1, "#0": 1, "": 1})
        self.assertEqual(session.read(wanted={"y": 1, "x": 1}), 0)
        self.assertEqual(len(session.log()), 7)

    def test_moves_and_suppositions(self):
        session = at_m()
        self.assertEqual([session.move({"x": 1}), session.move(stir={"y": 4, "x": 4}), session.suppose({"y": 2})], [None, None, None])
        self.assertEqual(session.dump(), (M, {"#0": 1, "#1": 0}))
        self.assertEqual(session.log()[-2:], [("move", {"x": 4, "y": 4}), ("suppose", {"y": 2})])
        self.assertEqual(list(session.log()[-2][1]), ["x", "y"])
        session.go()
        self.assertEqual((session.beats(), session.would()), ([[], [], [0]], [[], [], [2]]))
        session = at_m()
        for function in [session.move, session.suppose]:
            for value in [thing for thing in odd_objects() if type(thing) is not dict] + [{"": 1}, {"x": 0}, {"x": 5}, {1: 1}]:
                self.refused(InvalidSum, value, function, value)
            self.refused(UnknownHolder, "#0", function, {"x": 1, "z": 1, "#0": 1})
        self.assertEqual([session.move({}), session.suppose({}), session.put({})], [None, None, None])
        self.assertEqual(session.log()[-3:], [("move", {}), ("suppose", {}), ("put", {})])

    def thin(self):
        program = Program(5, [], [], (["x", "y"], [("read", "a", "x"), ("set", "b", "y", {"x": 1}), ("pass", "s"), ("print", "c", {"x": 1}), ("print", "d", {"y": 1})]))
        return Bench(program, Rows(5, 1, {"main": (0, [("read", 0), ("mark", "m", [("s",)]), ("print", 0), ("mark", "n", [("d",)]), ("print", 0), ("end",)])}))

    def test_refused_ones(self):
        session = opened(self.thin(), (M, {"#0": 2}), S)
        before = told_of(session)
        stir, wishes = {"x": 1}, {"x": 1}
        self.refused(Refused, stir, session.move, stir)
        self.refused(Refused, wishes, session.put, wishes)
        self.assertEqual(told_of(session), before)
        # On paper all can be moved; together they can be put, for each can be moved alone nowhere.
        session.suppose({"x": 1})
        self.refused(Refused, {"x": 1, "y": 1}, session.put, {"x": 1, "y": 1})
        session.go()
        self.assertEqual((session.beats(), session.would(), session.read({"x": 1}), session.read({"y": 1})), ([[2]], [[3]], 3, 2))
        # At the second mark y alone is printed on, and x counts in what can be read there, too.
        session.put({"y": 4})
        self.assertEqual((session.read({"x": 1}), session.read({"y": 1})), (3, 4))
        session.go()
        self.assertEqual((session.beats(), session.would()), ([[2, 4]], [[3, 4]]))

    def test_putting(self):
        later = opened(both(), (M, {"#0": 3, "#1": 0}), S)
        self.assertEqual([later.put({"x": 4, "y": 3}), later.read({"x": 1, "y": 1}), later.go(), later.beats(), later.would()], [None, 2, ("end",), [[2]], [[2]]])
        again = opened(both(), (M, {"#0": 3, "#1": 0}), S)
        for wishes in [{"x": 1}, {"y": 0}]:
            self.refused(Refused, wishes, again.put, wishes)
        self.assertIsNone(again.put(wishes={"y": 0, "x": 0}))
        self.assertEqual((again.read({"x": 1, "y": 1}), again.log()), (0, [("put", {"x": 0, "y": 0})]))
        self.assertEqual(list(again.log()[0][1]), ["x", "y"])
        for value in [thing for thing in odd_objects() if type(thing) is not dict] + [{"": 1}, {"x": 5}, {"x": True}, {1: 1}, {"x": -1}]:
            self.refused(InvalidSum, value, again.put, value)
        self.refused(UnknownHolder, "#0", again.put, {"x": 1, "z": 0, "#0": 0})

    def test_what_can_be_read_here_or_later_counts(self):
        # y is printed nowhere, but can be read at both marks; at the later one a sum with x can be read.
        program = Program(5, ["x", "y"], [], ([], [("read", "a", "x"), ("read", "b", "y"), ("pass", "s"), ("print", "c", {"x": 1}), ("set", "d", "y", {"x": 1, "y": 1}), ("pass", "e")]))
        rows = [("read", 0), ("read", 1), ("mark", "m", [("s",)]), ("print", 0), ("add", 1, 0), ("set", 0, 0), ("mark", "n", [("e",)]), ("end",)]
        session = opened(Bench(program, Rows(5, 2, {"main": (0, rows)})), (M, {"#0": 2, "#1": 1}), S)
        session.put({"y": 4})
        self.assertEqual((session.read({"y": 1}), session.dump()), (4, (M, {"#0": 2, "#1": 1})))
        session.go()
        self.assertEqual((session.read({"y": 1}), session.read({"x": 1})), (1, None))
        less = [("read", 0), ("read", 1), ("mark", "m", [("s",)]), ("print", 0), ("add", 1, 0), ("mark", "n", [("e",)]), ("end",)]
        blind = [("read", 0), ("read", 1), ("add", 1, 0), ("mark", "m", [("s",)]), ("print", 0), ("set", 0, 0), ("mark", "n", [("e",)]), ("end",)]
        for rows, fine in [(less, True), (blind, True)]:
            session = opened(Bench(program, Rows(5, 2, {"main": (0, rows)})), (M, {"#0": 2, "#1": 3}), S)
            session.put({"y": 4})
            session.go()
            self.assertEqual(session.read({"y": 1}), 1)
        # Rows that forget y at the first mark, and have a sum of it at the later one, cannot put it.
        odd = Program(5, ["x", "y"], [], ([], [("read", "a", "x"), ("read", "b", "y"), ("set", "f", "y", {"x": 1, "y": 1}), ("pass", "s"), ("print", "c", {"x": 1}), ("read", "g", "x"), ("set", "d", "y", {"x": 1, "y": 1}), ("pass", "e")]))
        rows = [("read", 0), ("read", 1), ("add", 1, 0), ("mark", "m", [("s",)]), ("print", 0), ("read", 0), ("add", 1, 0), ("mark", "n", [("e",)]), ("end",)]
        session = opened(Bench(odd, Rows(5, 2, {"main": (0, rows)})), (M, {"#0": 2, "#1": 3}), S)
        self.assertIsNone(session.put({"y": 4}))
        forgetful = rows[:3] + [("copy", 2, 1), ("set", 1, 0)] + rows[3:6] + [("set", 2, 0)] + rows[7:]
        session = opened(Bench(odd, Rows(5, 3, {"main": (0, forgetful)})), (M, {"#0": 2, "#1": 0, "#2": 3}), S)
        self.assertIsNone(session.put({"y": 4}))


class Point111(Checks):
    def session(self, first=1, second=2):
        session = Session(lone()[0])
        for letter in [("number", first), ("number", second)]:
            session.go()
            session.answer(letter)
        session.go()
        return session

    def test_there_and_back(self):
        session, here, there = self.session(), lone()[0], pair()[0]
        self.assertIsNone(session.exchange(there, N))
        self.assertEqual((session.here(), session.bench()), (("mark", N, S), there))
        told = session.dump()[1]
        self.assertEqual((told["#0"] + told["#1"]) % 5, 3)
        self.assertEqual([session.read({"a": 1}), session.read({"a": 1, "b": 1}), session.move({"a": 1}), session.read({"a": 1, "b": 1})], [None, 3, None, 4])
        self.assertIsNone(session.exchange(other=here, mark=M))
        self.assertEqual((session.dump(), session.read({"a": 1, "b": 1})), ((M, {"#0": 3, "#1": session.dump()[1]["#1"]}), 4))
        session.go()
        self.assertEqual((session.beats(), session.would()), ([[], [], [3]], [[], [], [4]]))
        self.assertEqual([command[0] for command in session.log()[-4:]], ["exchange", "move", "exchange", "go"])
        self.assertIs(session.log()[-4][1], there)

    def test_rules_with_constants(self):
        # These rows hold one more than the sum until it is printed.
        rows = [("read", 0), ("read", 1), ("add", 0, 1), ("set", 1, 0), ("more", 0, 1), ("mark", "k", [("s",)]), ("more", 0, 4), ("print", 0), ("end",)]
        more = Bench(echo(), Rows(5, 2, {"main": (0, rows)}))
        session = self.session()
        session.exchange(more, ("k", ()))
        self.assertEqual((session.dump()[1]["#0"], session.read({"a": 1, "b": 1})), (4, 3))
        session.go()
        self.assertEqual(session.beats(), [[], [], [3]])
        session.undo()
        session.exchange(lone()[0], M)
        self.assertEqual(session.dump()[1]["#0"], 3)

    def test_moves_ahead_stand_on_paper_then(self):
        session = self.session()
        session.move({"a": 2})
        session.suppose({"b": 1})
        session.exchange(pair()[0], N)
        self.assertEqual(session.read({"a": 1, "b": 1}), 1)
        session.move({"b": 3})
        session.go()
        self.assertEqual((session.beats(), session.would()), ([[], [], [1]], [[], [], [4]]))

    def test_what_could_be_read_and_cannot_since(self):
        there = pair()[0]
        session = Session(there)
        for letter in [("number", 1), ("number", 2)]:
            session.go()
            session.answer(letter)
        session.go()
        self.assertEqual(session.read({"a": 1}), 1)
        session.exchange(there, N)
        self.assertEqual([session.read({"a": 1}), session.read({"a": 1, "b": 1})], [None, 3])
        # Now a alone can be put no more, though it can be moved.
        self.refused(Refused, {"a": 1}, session.put, {"a": 1})
        self.assertIsNone(session.put({"a": 1, "b": 1}))
        self.assertEqual(session.read({"a": 1, "b": 1}), 2)
        session.undo()
        session.undo()
        self.assertEqual(session.read({"a": 1}), 1)
        self.assertIsNone(session.put({"a": 3}))

    def test_errors_in_their_order(self):
        session = self.session()
        before = told_of(session)
        for value in odd_objects() + [lone()[0].rows()]:
            self.refused(InvalidBench, value, session.exchange, value, 7)
        other = both()
        self.refused(Unlike, other, session.exchange, other, 7)
        steps = [("read", 0), ("read", 1), ("mark", "t", [("q",)]), ("add", 0, 1), ("mark", "m", [("s",)]), ("print", 0), ("end",)]
        stray = Bench(echo(), Rows(5, 2, {"main": (0, steps)}))
        self.refused(Stray, ("t", ()), session.exchange, stray, M)
        turned = Bench(echo(), Rows(5, 2, {"main": (0, [("read", 0), ("read", 1), ("add", 0, 1), ("mark", "n", [("t",)]), ("mark", "m", [("s",)]), ("print", 0), ("end",)])}))
        self.refused(OutOfOrder, turned, session.exchange, turned, 7)
        uneven = Bench(echo(), Rows(5, 2, {"main": (0, [("read", 0), ("read", 1), ("add", 0, 1), ("mark", "m", [("s",)]), ("print", 0), ("mark", "n", [("s",)]), ("end",)])}))
        self.refused(Uneven, ("n", ()), session.exchange, uneven, M)
        for mark in odd_objects() + [M, ("n",)]:
            self.refused(UnknownMark, mark, session.exchange, pair()[0], mark)
        late = Bench(echo(), Rows(5, 2, {"main": (0, [("read", 0), ("read", 1), ("add", 0, 1), ("mark", "m", [("t",)]), ("print", 0), ("end",)])}))
        self.refused(UnknownMark, M, session.exchange, late, M)
        self.assertEqual(told_of(session), before)

    def test_refused(self):
        # The round is written out: o is passed from the second round on, when y is 1 for ever, m in the first one, when
        # it is 0. The rows have it nowhere.
        steps = [("again", "w", ([], [("read", "r", "x"), ("pass", "s"), ("print", "p", {"x": 1}), ("print", "q", {"x": 1, "y": 1}), ("set", "u", "y", {"": 1})]))]
        program = Program(5, ["x", "y"], [], ([], steps))
        rows = [("pick", [12, 1]), ("read", 0), ("mark", "m", [("s",)]), ("print", 0), ("print", 0),
                ("pick", [12, 6]), ("read", 0), ("mark", "o", [("s",)]), ("print", 0), ("more", 0, 1), ("print", 0), ("go", 5), ("end",)]
        bench = Bench(program, Rows(5, 1, {"main": (0, rows)}))
        session = Session(bench)
        for letter in [ON, ("number", 2)]:
            session.go()
            session.answer(letter)
        self.assertEqual(session.go(), ("mark", M, S))
        mark = ("o", ())
        self.assertIsNone(exchange_rule((bench, M, S), (bench, mark, S), None))
        self.refused(Refused, mark, session.exchange, bench, mark)
        self.assertEqual(session.here(), ("mark", M, S))
        self.assertIsNone(session.exchange(bench, M))
        session.go()
        self.assertEqual(session.beats(), [[], [], [2, 2]])


class Point112(Checks):
    def test_undo_and_redo_of_each_command(self):
        session = at_m()
        there = both()
        states = [told_of(session)]
        for name, more in [("move", [{"x": 1}]), ("suppose", [{"y": 1}]), ("put", [{"x": 1, "y": 1}]), ("exchange", [there, M]), ("go", [])]:
            getattr(session, name)(*more)
            states.append(told_of(session))
        for state in states[-2::-1]:
            self.assertIsNone(session.undo())
            self.assertEqual(told_of(session), state)
        for state in states[1:]:
            self.assertIsNone(session.redo())
            self.assertEqual(told_of(session), state)
        with self.assertRaises(NothingToRedo):
            session.redo()
        for _ in range(10):
            session.undo()
        with self.assertRaises(NothingToUndo):
            session.undo()
        self.assertEqual((session.here(), session.beats(), session.log()), (("begin",), [[]], []))

    def test_behind_refused_ones_and_new_ones(self):
        session = at_m()
        session.move({"x": 1})
        session.undo()
        with self.assertRaises(Refused):
            session.put({"x": 1})
        session.read({"x": 1})
        session.redo()
        self.assertEqual(session.log()[-1], ("move", {"x": 1}))
        session.undo()
        session.suppose({"x": 2})
        with self.assertRaises(NothingToRedo):
            session.redo()
        # Where it asks or ends go is no command and leaves what can be made again.
        session.go()
        session.undo()
        session.redo()
        session.go()
        self.assertEqual(session.log()[-1], ("go",))

    def test_go_at_an_asking_leaves_what_can_be_made_again(self):
        session = Session(both())
        session.go()
        session.answer(ONE)
        session.undo()
        session.go()
        session.redo()
        self.assertEqual(session.here(), ("given",))

    def test_blocks(self):
        session = at_m()
        session.move({"x": 1})
        session.undo()
        before = told_of(session)
        with session.trial() as told:
            self.assertIs(told, session)
            session.undo()
            session.undo()
            with session.trial():
                session.redo()
                session.redo()
                session.redo()
                self.assertEqual(session.log()[-1], ("move", {"x": 1}))
            with self.assertRaises(ZeroDivisionError):
                with session.trial():
                    session.undo()
                    session.go()
                    raise ZeroDivisionError()
            self.assertEqual(session.here(), ("number",))
            session.answer(ONE)
        self.assertEqual(told_of(session), before)
        session.redo()
        self.assertEqual(session.log()[-1], ("move", {"x": 1}))

    def test_a_block_begins_when_it_is_entered(self):
        session = at_m()
        block = session.trial()
        session.move({"x": 1})
        before = told_of(session)
        with block:
            session.move({"x": 1})
            with block:
                session.go()
            self.assertEqual(session.read({"x": 1, "y": 1}), 3)
        self.assertEqual(told_of(session), before)
        with block:
            session.undo()
        self.assertEqual(told_of(session), before)

    def test_attempts(self):
        session, found = at_m(), []
        before = told_of(session)
        thing = object()
        def action(told):
            found.append(told)
            told.move({"x": 1})
            told.go()
            return thing
        self.assertIs(session.attempt(action), thing)
        self.assertEqual(len(found), 1)
        self.assertIs(found[0], session)
        self.assertEqual(told_of(session), before)
        self.assertEqual(session.attempt(action=lambda told: (told.go(), told.beats())), (("end",), [[], [], [1]]))
        self.assertIs(session.attempt(lambda told: told), session)
        with self.assertRaises(NothingToRedo):
            session.attempt(lambda told: (told.undo(), told.redo(), told.redo()))
        self.assertEqual(told_of(session), before)
        self.assertEqual(session.attempt(lambda told: told.attempt(lambda inner: (inner.go(), inner.beats()))), (("end",), [[], [], [1]]))

    def test_copies_go_on_apart(self):
        session = at_m()
        session.move({"x": 1})
        session.undo()
        twin = session.copy()
        self.assertIs(type(twin), Session)
        self.assertEqual(told_of(twin), told_of(session))
        twin.redo()
        twin.go()
        self.assertEqual((session.beats(), twin.beats()), ([[], [], []], [[], [], [2]]))
        session.undo()
        self.assertEqual(twin.here(), ("end",))
        with session.trial():
            other = session.copy()
            other.undo()
            kept = told_of(other)
        self.assertEqual(told_of(other), kept)

    def test_logs(self):
        session = at_m()
        session.put({"y": 1, "x": 3})
        session.exchange(both(), M)
        session.suppose({"x": 1})
        session.go()
        start = Session(both())
        twin = replayed(start, session.log())
        self.assertEqual(told_of(twin), told_of(session))
        self.assertEqual(start.here(), ("begin",))
        on = replayed(log=[("go",), ("go",)], session=at_m())
        self.assertEqual((on.here(), len(on.log())), (("end",), 6))
        self.assertEqual(told_of(replayed(start, [])), told_of(start))
        self.unhurt(session.log)
        on.undo()
        on.undo()
        self.assertEqual(on.here(), ("given",))
        self.assertEqual(replayed(session, [("go",)]).log(), session.log())

    def test_logs_that_are_none(self):
        start = Session(both())
        for value in odd_objects():
            self.refused(InvalidSession, value, replayed, value, 7)
        bad = [thing for thing in odd_objects() if thing != []] + [[("go", 1)], [("answer",)], [("answer", 1, 2)], [["go"]], [("undo",)], [("read", {})], [("exchange", both())], [("go",), 7], (("go",),), [("go",), ()], [(True,)], [(["go"],)]]
        self.refused_all(InvalidLog, bad, replayed, start, None, at=1)
        for log, kind, value in [([("go",), ("answer", 7), ("move", 7)], InvalidLetter, 7), ([("move", {"x": 1}), ("go",)], NotHere, ("begin",)), ([("answer", ONE)], NotHere, ("begin",)), ([("exchange", 1, 2)], NotHere, ("begin",))]:
            with self.assertRaises(kind) as caught:
                replayed(start, log)
            self.assertEqual(caught.exception.value, value)
        self.assertEqual(start.log(), [])
        wishes = {"x": 1}
        with self.assertRaises(Refused) as caught:
            replayed(at_m(), [("put", wishes)])
        self.assertIs(caught.exception.value, wishes)


if __name__ == "__main__":
    unittest.main()
