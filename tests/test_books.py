"""Points 85 to 90: lines, readings, honest changes, papers against them, courses, true books and lying ones."""

import random
import unittest

from tests.beside import all_beside
from tests.bookhand import ByHand
from tests.checks import Checks, bent_ones
from tests.odd import odd_objects
from tests.test_benches import bad_marks
from tests.test_moving import some_stirs, stock_of_all_kinds, whole_span
from tests.test_pieces import orderly, out_of_order_bench
from tests.woven import woven_stock
from truestops.benches import Bench
from truestops.books import (
    Book,
    greatest_book,
    honest_change,
    honest_stirs,
    is_honest,
    is_lying,
    is_true,
    is_why_not_honest,
    joined,
    lying_course,
    walked,
    why_not_honest,
)
from truestops.errors import (
    InvalidBench,
    InvalidBook,
    InvalidInputs,
    InvalidLines,
    InvalidReadings,
    InvalidSum,
    NeverPassed,
    OutOfOrder,
    Stray,
    Uneven,
    UnknownHolder,
    UnknownMark,
    UnknownStop,
)
from truestops.moving import change_for, is_change_for, is_why_unmoved, movable_stirs
from truestops.programs import Program
from truestops.reading import read_rule, readable
from truestops.rows import Rows

NOUGHT, ONE, ON, OFF = ("number", 0), ("number", 1), ("choice", 1), ("choice", 0)
M, S = ("m", ()), ("s",)


def plain(prime=5):
    program = Program(prime, [], [], (["x"], [("read", "a", "x"), ("pass", "s"), ("print", "b", {"x": 1})]))
    return Bench(program, Rows(prime, 1, {"main": (0, [("read", 0), ("mark", "m", [("s",)]), ("print", 0), ("end",)])}))


SEEN, GOOD, BAD = ("read", M, S, {"x": 1}, {"#0": 1}), ("change", M, S, {"x": 1}, {"#0": 1}), ("change", M, S, {"x": 1}, {"#0": 2})


def double():
    program = Program(5, [], [], (["x", "y"], [("read", "a", "x"), ("set", "b", "y", {"x": 1}), ("pass", "s"), ("print", "c", {"x": 1}), ("print", "d", {"y": 1})]))
    return Bench(program, Rows(5, 1, {"main": (0, [("read", 0), ("mark", "m", [("s",)]), ("print", 0), ("print", 0), ("end",)])}))


def round_of_two():
    """In each round a number is read and printed at once; ahead of the print stand two marks of one stop and one more."""
    steps = [("again", "w", ([], [("read", "r", "x"), ("pass", "p"), ("print", "q", {"x": 1})])), ("print", "z", {"x": 1})]
    rows = [("mark", "l", [("w",)]), ("pick", [8, 2]), ("read", 0), ("mark", "m", [("p",)]), ("mark", "n", [("p",)]), ("mark", "o", [("q",)]), ("print", 0), ("go", 0), ("print", 0), ("end",)]
    return Bench(Program(5, ["x"], [], ([], steps)), Rows(5, 1, {"main": (0, rows)}))


def right_readings(chance, bench, many):
    """So many right readings of a bench, by chance, as far as there are any."""
    found = []
    for mark, stop in chance.sample(bench.passings.true_seats(), min(many, len(bench.passings.true_seats()))):
        sums = readable(bench, mark, stop)
        if sums:
            wanted = dict(chance.choice(sums))
            if chance.random() < 0.5:
                wanted[""] = 1
            found.append(("read", mark, stop, wanted, read_rule(bench, mark, stop, wanted)))
    return found


class Point85(Checks):
    def test_what_it_was_made_of(self):
        bench, lines = plain(), [SEEN, GOOD, BAD]
        book = Book(bench, lines)
        self.assertIs(type(book), Book)
        self.assertEqual((book.bench(), book.lines()), (bench, lines))
        lines.append(GOOD)
        lines[0][3]["x"] = 2
        self.assertEqual(book.lines(), [("read", M, S, {"x": 1}, {"#0": 1}), GOOD, BAD])
        lines[0][3]["x"] = 1
        book.lines()[0][3]["spoilt"] = 1
        book.lines().append(7)
        self.assertEqual(book.lines(), [SEEN, GOOD, BAD])
        self.assertEqual(Book(bench, []).lines(), [])

    def test_keys_are_told_in_ascending_order(self):
        line = ("read", M, S, {"y": 1, "": 3, "x": 2}, {"#0": 3, "": 3})
        told = Book(double(), [line, ("change", M, S, {"y": 1, "x": 1}, {})]).lines()
        self.assertEqual([list(told[0][3]), list(told[0][4]), list(told[1][3])], [["", "x", "y"], ["", "#0"], ["x", "y"]])

    def test_equality(self):
        book = Book(plain(), [SEEN, GOOD])
        self.assertTrue(book == Book(plain(), [SEEN, GOOD]))
        self.assertFalse(book != Book(plain(), [SEEN, GOOD]))
        for other in [Book(plain(), [GOOD, SEEN]), Book(plain(), [SEEN]), Book(plain(3), []), Book(plain(), [SEEN, BAD]), Book(double(), [])] + odd_objects() + [plain(), [SEEN, GOOD]]:
            self.assertFalse(book == other)
            self.assertTrue(book != other)

    def test_lines_that_are_none(self):
        bench = plain()
        for line in [SEEN, GOOD]:
            for bent in bent_ones(line):
                # A sum may be bent into another one, and a stir or a change likewise.
                if not self.is_line(bent):
                    self.refused_all(InvalidLines, [[bent], [SEEN, bent], [bent, GOOD]], Book, bench, None, at=1)
        for lines in odd_objects() + [(SEEN,), {0: SEEN}, SEEN]:
            if lines != []:
                self.refused(InvalidLines, lines, Book, bench, lines)
        self.refused(InvalidLines, [("read", M, S, {"x": 1}, {"#0": 1}, 1)], Book, bench, [("read", M, S, {"x": 1}, {"#0": 1}, 1)])

    def is_line(self, bent):
        if type(bent) is not tuple or len(bent) != 5 or bent[1:3] != (M, S) or type(bent[3]) is not dict or type(bent[4]) is not dict:
            return False
        keys = [{"x", ""}, {"#0", ""}] if bent[0] == "read" else [{"x"}, {"#0"}]
        if bent[0] not in ("read", "change") or not set(bent[3]) <= keys[0] or not set(bent[4]) <= keys[1]:
            return False
        fine = all(type(n) is int and 0 < n < 5 for told in bent[3:] for n in told.values())
        return fine and (bent[0] == "read" or bool(bent[3]))

    def test_marks_that_are_not_true_and_stops_not_passed(self):
        bench = bad_marks()
        self.assertEqual(len(Book(bench, [("read", ("v", ()), ("c",), {"x": 1}, {}), ("read", ("t", ()), ("a",), {}, {})]).lines()), 2)
        for mark, stop in [(("n", ()), ("c",)), (("s", ()), ("a",)), (("u", ()), ("c",)), (("t", ()), ("c",)), (("v", ()), ("e",)), (("w", ()), ("c",)), ("t", ("a",))]:
            lines = [("read", mark, stop, {}, {})]
            self.refused(InvalidLines, lines, Book, bench, lines)

    def test_benches(self):
        self.refused_all(InvalidBench, odd_objects() + [plain().rows()], Book, None, [], at=0)
        self.refused_all(OutOfOrder, [out_of_order_bench()], Book, None, [], at=0)


class Point86(Checks):
    def functions(self):
        return [(is_honest, [GOOD]), (honest_change, [M, S, {"x": 1}]), (honest_stirs, [M, S]), (why_not_honest, [M, S, {"x": 1}]), (is_why_not_honest, [M, S, {"x": 1}, []]), (greatest_book, [])]

    def test_readings_that_are_not_right_and_none(self):
        wrong = ("read", M, S, {"x": 1}, {"#0": 2})
        bad = [thing for thing in odd_objects() if thing != []] + [[wrong], [SEEN, wrong], [SEEN, GOOD], [GOOD], (SEEN,), [SEEN, 7], [("read", M, S, {"x": 1}, {"": 1, "#0": 1})], [("read", M, ("b",), {"x": 1}, {"#0": 1})]]
        for function, more in self.functions():
            self.refused_all(InvalidReadings, bad, function, plain(), None, *more, at=1)
            self.refused_all(InvalidBench, odd_objects(), function, None, None, *more, at=0)
            self.refused_all(OutOfOrder, [out_of_order_bench()], function, None, None, *more, at=0)

    def test_right_ones(self):
        self.assertEqual(honest_stirs(plain(), [SEEN, SEEN], M, S), [{"x": 1}])
        self.assertEqual(honest_stirs(plain(), [("read", M, S, {"": 3}, {"": 3}), ("read", M, S, {}, {})], M, S), [{"x": 1}])
        self.unhurt(honest_stirs, plain(), [SEEN], M, S)

    def test_against_runs(self):
        for stock in orderly(stock_of_all_kinds(30, 3)):
            for beside in all_beside(stock):
                for name in beside.variables:
                    for factor in range(3):
                        line = ("read", beside.mark, beside.stop, {name: 1}, {"#0": factor} if factor else {})
                        right = all(mine[beside.variables.index(name)] == factor * theirs[0] % 3 for _, mine, theirs in beside.runs)
                        try:
                            honest_stirs(stock.bench, [line], beside.mark, beside.stop)
                        except InvalidReadings:
                            told = read_rule(stock.bench, beside.mark, beside.stop, {name: 1})
                            self.assertTrue(not right or told != line[4])
                        else:
                            self.assertTrue(right)


class Point87(Checks):
    def test_honest_lines_against_runs(self):
        told = {True: 0, False: 0}
        for prime in [2, 3, 5, 65537]:
            chance = random.Random(prime)
            for stock in orderly(stock_of_all_kinds(40, prime)):
                readings = right_readings(chance, stock.bench, chance.randint(0, 3))
                for beside in all_beside(stock, readings):
                    for stir in some_stirs(chance, prime, beside.variables, 3):
                        args = (stock.bench, readings, beside.mark, beside.stop)
                        if stir:
                            change, paper = honest_change(*args, stir), why_not_honest(*args, stir)
                            self.assertEqual(change is None, paper is not None)
                            told[paper is None] += 1
                            if paper is None:
                                self.assertTrue(is_honest(stock.bench, readings, ("change", beside.mark, beside.stop, stir, change)))
                                self.told_right(chance, beside, stir, change)
                            else:
                                self.assertTrue(is_why_not_honest(*args, stir, paper))
                                self.assertTrue(beside.bar_holds(stir, paper))
        self.assertGreater(min(told.values()), 30)

    def told_right(self, chance, beside, stir, change):
        inputs, _, _ = chance.choice(beside.runs)
        for n in {1, beside.prime - 1}:
            raised, moved = [{name: n * amount for name, amount in told.items()} for told in (stir, change)]
            for going_on in list(beside.goings_on(2))[:5]:
                self.assertTrue(all(a == b for a, b in beside.told(inputs, going_on, raised, moved)))

    def test_readings_bar_and_without_them_all_is_as_in_moving(self):
        less = 0
        for stock in orderly(stock_of_all_kinds(40, 3)):
            readings = right_readings(random.Random(1), stock.bench, 2)
            for mark, stop in stock.bench.passings.true_seats():
                basis = honest_stirs(stock.bench, [], mark, stop)
                self.assertEqual(basis, movable_stirs(stock.bench, mark, stop))
                with_readings = honest_stirs(stock.bench, readings, mark, stop)
                less += len(with_readings) < len(basis)
                span = list(whole_span(3, basis))
                for stir in with_readings:
                    self.assertIn(stir, span)
                    change = honest_change(stock.bench, readings, mark, stop, stir)
                    self.assertTrue(is_change_for(stock.bench, mark, stop, stir, change))
        self.assertGreater(less, 5)

    def test_a_reading_that_asks_more_than_all_prints(self):
        program = Program(5, [], [], (["x"], [("read", "a", "x"), ("pass", "s"), ("print", "b", {})]))
        bench = Bench(program, Rows(5, 2, {"main": (0, [("read", 0), ("mark", "m", [("s",)]), ("set", 1, 0), ("print", 1), ("end",)])}))
        line = ("change", M, S, {"x": 1}, {"#0": 3})
        self.assertTrue(is_honest(bench, [], line))
        self.assertFalse(is_honest(bench, [SEEN], line))
        self.assertTrue(is_honest(bench, [SEEN], GOOD))
        self.assertEqual(honest_change(bench, [SEEN], M, S, {"x": 2}), {"#0": 2})
        self.assertEqual(honest_change(bench, [], M, S, {"x": 2}), {})

    def test_lines_and_stirs_that_are_none(self):
        bad = odd_objects() + [SEEN, ("change", M, S, {}, {}), ("change", M, S, {"x": 1}, {"x": 1}), ("change", M, ("b",), {"x": 1}, {}), ["change", M, S, {"x": 1}, {"#0": 1}]]
        self.refused_all(InvalidLines, bad, is_honest, plain(), [SEEN], None, at=2)
        for function, more in [(honest_change, []), (why_not_honest, []), (is_why_not_honest, [[]])]:
            stirs = [thing for thing in odd_objects() if type(thing) is not dict] + [{}, {"": 1}, {"x": 0}, {"x": 5}, {1: 1}]
            self.refused_all(InvalidSum, stirs, function, plain(), [], M, S, None, *more, at=4)
            self.refused(UnknownHolder, "#0", function, plain(), [], M, S, {"x": 1, "z": 1, "#0": 1}, *more)
        for function, more in [(honest_change, [{}]), (honest_stirs, []), (why_not_honest, [{}]), (is_why_not_honest, [{}, []])]:
            self.refused_all(UnknownMark, odd_objects(), function, plain(), [], None, S, *more, at=2)
            self.refused_all(UnknownStop, odd_objects() + [("b",)], function, plain(), [], M, None, *more, at=3)
            for name, kind in [("n", NeverPassed), ("s", Stray), ("u", Uneven)]:
                self.refused(kind, (name, ()), function, bad_marks(), [], (name, ()), 8, *more)


class Point88(Checks):
    def test_bent_papers(self):
        bench = double()
        args = (bench, [], M, S, {"x": 1})
        paper = [([], 0, 1), ([], 1, 4)]
        self.assertTrue(is_why_not_honest(*args, paper))
        self.assertTrue(is_why_not_honest(*args, paper[::-1]))
        # Here nothing bars one number told twice.
        self.assertTrue(is_why_not_honest(*args, [([], 0, 3), ([], 0, 3), ([], 1, 4)]))
        for bent in bent_ones(paper) + odd_objects() + [[], None]:
            if bent != paper[::-1]:
                self.assertFalse(is_why_not_honest(*args, bent), bent)
        self.assertFalse(is_why_not_honest(bench, [], M, S, {"x": 2}, paper))
        self.assertFalse(is_why_not_honest(bench, [], M, S, {"x": 1, "y": 1}, paper))
        self.assertIsNone(why_not_honest(bench, [], M, S, {"x": 1, "y": 1}))
        self.unhurt(why_not_honest, *args)

    def test_readings_count_among_what_is_told(self):
        bench = plain()
        both = [("read", M, S, {"x": 1}, {"#0": 1}), ("read", M, S, {"x": 2, "": 1}, {"#0": 2, "": 1})]
        args = (double(), [("read", M, S, {"y": 1}, {"#0": 1})], M, S, {"x": 1})
        # The number of the reading stands ahead of the prints.
        self.assertTrue(is_why_not_honest(*args, [([], 0, 4), ([], 1, 1)]))
        self.assertFalse(is_why_not_honest(*args, [([], 0, 1), ([], 1, 4)]))
        self.assertTrue(is_why_not_honest(*args, [([], 1, 1), ([], 2, 4)]))
        self.assertFalse(is_why_not_honest(*args, [([], 1, 1), ([], 3, 4)]))
        self.assertEqual(honest_change(bench, both, M, S, {"x": 3}), {"#0": 3})


class Point89(Checks):
    def test_courses_by_chance_against_runs(self):
        for prime in [2, 3, 5, 65537]:
            chance = random.Random(prime)
            for stock in orderly(stock_of_all_kinds(40, prime)):
                lines = self.some_lines(chance, stock)
                book, hand = Book(stock.bench, lines), ByHand(stock, lines)
                for _ in range(6):
                    course = self.some_course(chance, hand, prime)
                    expected = hand.walk(course)
                    if type(expected) is int:
                        self.refused(InvalidInputs, expected, walked, book, course)
                        self.assertFalse(is_lying(book, course))
                    else:
                        self.assertEqual(walked(book, course), expected)
                        self.assertEqual(is_lying(book, course), any(told[-1] != told[-2] for told in expected))

    def some_lines(self, chance, stock):
        lines = right_readings(chance, stock.bench, 2)
        for mark, stop in chance.sample(stock.bench.passings.true_seats(), min(4, len(stock.bench.passings.true_seats()))):
            joints = stock.bench.joints
            for stir in some_stirs(chance, stock.prime, joints.variables(stop), 1):
                change = change_for(stock.bench, mark, stop, stir)
                if change is None or chance.random() < 0.3:
                    change = next(some_stirs(chance, stock.prime, joints.holders(mark), 1))
                lines += [("change", mark, stop, stir, change)] if stir else [("read", mark, stop, {}, change)]
        chance.shuffle(lines)
        return lines

    def some_course(self, chance, hand, prime):
        course, letters, moves = [], [], []
        for _ in range(chance.randint(0, 6)):
            told = hand.commands((course, letters, moves)) + [("move", chance.randrange(len(hand.lines) + 1), 0)]
            command = chance.choice(told)
            if command[0] == "number":
                command = ("number", chance.randrange(prime))
            elif command[0] == "move":
                command = ("move", command[1], chance.randrange(prime))
            course = course + [command]
            if not hand.fits(letters, moves, command):
                break
            if command[0] == "move":
                moves = moves + [(command[1], command[2], len(letters))]
            else:
                letters = letters + [command]
        return course

    def lines(self):
        l, m, n, o, p = [(name, ()) for name in "lmno"] + [("p",)]
        return [("change", l, ("w",), {"x": 1}, {"#0": 1}), ("change", m, p, {"x": 1}, {"#0": 1}), ("change", n, p, {"x": 1}, {"#0": 2}), ("read", m, p, {"x": 1}, {"#0": 1}),
                ("change", o, ("q",), {"x": 2}, {"#0": 2}), ("read", n, p, {"x": 2}, {"#0": 2}), ("read", l, ("w",), {"x": 1, "": 1}, {"#0": 1, "": 1})]

    def test_moves_at_the_beginning_and_in_order(self):
        book = Book(round_of_two(), self.lines())
        start = [("read", 6, 1, 1)]
        self.assertEqual(walked(book, []), start)
        self.assertEqual(walked(book, [("move", 0, 3)]), [("read", 6, 4, 4)])
        self.assertEqual(walked(book, [("move", 0, 3), ("move", 0, 3), ("move", 0, 0)]), [("read", 6, 2, 2)])
        two = [ON, ("number", 2)]
        self.assertEqual(walked(book, two), start + [("read", 3, 2, 2), ("read", 5, 4, 4), ("printed", 2, 2), ("read", 6, 3, 3)])
        # A move at m counts at n, and one at n not at m; a line that is not honest lies on.
        self.assertEqual(walked(book, two + [("move", 1, 1)]), start + [("read", 3, 3, 3), ("read", 5, 1, 1), ("printed", 3, 3), ("read", 6, 4, 4)])
        self.assertEqual(walked(book, two + [("move", 2, 1)]), start + [("read", 3, 2, 2), ("read", 5, 3, 1), ("printed", 4, 3), ("read", 6, 0, 4)])
        self.assertEqual(walked(book, two + [("move", 1, 1), ("move", 2, 0), ("move", 2, 2), ("move", 4, 4)]), start + [("read", 3, 3, 3), ("read", 5, 4, 0), ("printed", 0, 3), ("read", 6, 1, 4)])
        self.unhurt(walked, book, two + [("move", 1, 1)])

    def test_what_does_not_fit(self):
        book = Book(round_of_two(), self.lines())
        two = [ON, ("number", 2)]
        bad = [
            ([("move", 1, 1)], 0), ([("move", 3, 1)], 0), ([("move", 7, 1)], 0), ([("move", -1, 1)], 0), ([("move", 0, 5)], 0), ([("move", 0, True)], 0), ([("move", False, 1)], 0),
            (two + [("move", 2, 1), ("move", 1, 1)], 3), (two + [("move", 0, 1), ("move", 1, 1)], 3), (two + [("move", 4, 0), ("move", 2, 0)], 3), ([ON, ("move", 0, 1)], 1),
            ([("choice", 2)], 0), ([ON, ("number", 5)], 1), ([ON, ON], 1), ([OFF, ON], 1), ([OFF, ("move", 0, 1)], 1), ([None], 0), ([["move", 0, 1]], 0), ([("move", 0)], 0), ([("move", 0, 1, 1)], 0), ([("moved", 0, 1)], 0),
            ([("move", 0, 1), ("read", 0)], 1),
        ]
        for course, at in bad:
            self.refused(InvalidInputs, at, walked, book, course)
            self.assertFalse(is_lying(book, course), course)
        # Behind the moves of p's marks stand those of the mark passed ahead of the next asking.
        self.assertEqual(len(walked(book, two + [("move", 4, 1), ("move", 0, 1)])), 5)
        for value in [thing for thing in odd_objects() if type(thing) is not list]:
            self.refused(InvalidInputs, value, walked, book, value)
            self.assertFalse(is_lying(book, value))

    def test_a_mark_passed_at_another_stop(self):
        from tests.test_moving import joined as joined_bench
        lines = [("change", M, ("p",), {"x": 1}, {"#0": 1}), ("change", M, ("r",), {"y": 2}, {"#0": 1}), ("read", M, ("p",), {"x": 1}, {"#0": 1})]
        book = Book(joined_bench(2), lines)
        self.assertEqual(walked(book, [ONE, OFF, ("move", 0, 2)]), [("read", 2, 3, 3), ("printed", 3, 3)])
        self.refused(InvalidInputs, 2, walked, book, [ONE, OFF, ("move", 1, 2)])
        self.assertEqual(walked(book, [ONE, ON, ("move", 1, 2)]), [("printed", 4, 4)])
        self.refused(InvalidInputs, 2, walked, book, [ONE, ON, ("move", 0, 0)])

    def test_no_books(self):
        for function, more in [(walked, [[]]), (is_lying, [[]]), (is_true, []), (lying_course, []), (joined, [7])]:
            self.refused_all(InvalidBook, odd_objects() + [plain(), [SEEN]], function, None, *more, at=0)


class Point90(Checks):
    def test_lying_courses_are_the_shortest_ones(self):
        lengths = set()
        for prime in [2, 3]:
            chance = random.Random(prime)
            for stock in orderly(stock_of_all_kinds(60, prime)):
                lines = Point89().some_lines(chance, stock)[:4]
                if chance.random() < 0.4 and lines:
                    at = chance.randrange(len(lines))
                    lines[at] = lines[at][:4] + (next(some_stirs(chance, prime, stock.bench.joints.holders(lines[at][1]), 1)),)
                book, hand = Book(stock.bench, lines), ByHand(stock, lines)
                course = lying_course(book)
                self.assertEqual(is_true(book), course is None)
                most = 3 if course is None else min(3, len(course) - 1)
                for other in hand.courses(most):
                    self.assertFalse(hand.lies(other), (lines, other))
                if course is not None:
                    lengths.add((len(course), sum(command[0] == "move" for command in course)))
                    self.assertTrue(hand.lies(course))
                    self.assertTrue(is_lying(book, course))
        self.assertGreaterEqual(lengths, {(1, 0), (1, 1), (2, 1), (2, 0)})

    def test_true_and_lying_ones(self):
        bench = plain()
        for lines, told in [([], True), ([SEEN, GOOD], True), ([GOOD], True), ([SEEN, BAD], False), ([("read", M, S, {"x": 1}, {"": 1})], False), ([("read", M, S, {}, {})], True)]:
            self.assertEqual((is_true(Book(bench, lines)), lying_course(Book(bench, lines)) is None), (told, told))
        self.assertEqual(len(lying_course(Book(bench, [SEEN, BAD]))), 2)
        # A wrong reading lies without any move: by the number 0 if it is not 0 there, else by another one.
        self.assertEqual(lying_course(Book(bench, [BAD, ("read", M, S, {"x": 1}, {"": 1})])), [NOUGHT])
        self.assertEqual(len(lying_course(Book(bench, [("read", M, S, {"x": 1}, {"#0": 2})]))), 1)
        for value in odd_objects() + [[ONE, ("move", 0, 1)], [ONE], [ONE, ("move", 1, 0)], ((ONE, ("move", 1, 1)))]:
            self.assertFalse(is_lying(Book(bench, [SEEN, BAD]), value), value)
        self.assertTrue(is_lying(Book(bench, [SEEN, BAD]), [ONE, ("move", 1, 4)]))
        self.unhurt(lying_course, Book(bench, [SEEN, BAD]))

    def test_a_change_far_behind(self):
        steps = [("read", "a", "x"), ("again", "b", ([], [("pass", "c")])), ("read", "d", "y"), ("print", "e", {"x": 1})]
        rows = [("read", 0), ("mark", "m", [("b",)]), ("pick", [4, 3]), ("go", 1), ("read", 1), ("print", 0), ("end",)]
        bench = Bench(Program(5, ["x", "y"], [], ([], steps)), Rows(5, 2, {"main": (0, rows)}))
        bad = Book(bench, [("change", M, ("b",), {"x": 1}, {})])
        self.assertEqual(len(lying_course(bad)), 4)
        self.assertTrue(is_lying(bad, [ONE, ("move", 0, 1), OFF, NOUGHT]))
        self.assertTrue(is_lying(bad, [ONE, ON, ("move", 0, 1), OFF, NOUGHT]))
        self.assertFalse(is_lying(bad, [ONE, ("move", 0, 2), ON, ("move", 0, 3), OFF, NOUGHT]))

    def test_greatest_books(self):
        for prime in [2, 3, 65537]:
            chance = random.Random(prime)
            for stock in orderly(stock_of_all_kinds(30, prime)):
                for readings in [[], right_readings(chance, stock.bench, 2)]:
                    book = greatest_book(stock.bench, readings)
                    self.assertTrue(is_true(book))
                    self.assertIsNone(lying_course(book))
                    lines = book.lines()
                    self.assertEqual(lines[:len(readings)], readings)
                    told = [(word, mark, stop, stir) for word, mark, stop, stir, _ in lines[len(readings):]]
                    self.assertEqual(told, [("change", mark, stop, stir) for mark, stop in stock.bench.passings.true_seats() for stir in honest_stirs(stock.bench, readings, mark, stop)])
        self.assertEqual(greatest_book(plain(), []).lines(), [GOOD])
        self.assertEqual(greatest_book(plain(), [SEEN]), Book(plain(), [SEEN, GOOD]))

    def test_joined(self):
        one, other = Book(plain(), [SEEN, GOOD]), Book(plain(), [SEEN, BAD, GOOD])
        self.assertEqual(joined(one, other), Book(plain(), [SEEN, GOOD, SEEN, BAD, GOOD]))
        self.assertEqual(joined(other, one).lines(), [SEEN, BAD, GOOD, SEEN, GOOD])
        self.assertTrue(is_true(joined(one, one)))
        self.refused_all(InvalidBook, odd_objects() + [plain(), Book(double(), []), Book(plain(3), [])], joined, one, None, at=1)

    def test_names(self):
        book = Book(plain(), [SEEN, BAD])
        self.same_by_names(walked, book=book, course=[ONE])
        self.same_by_names(is_lying, book=book, value=[ONE, ("move", 1, 1)])
        self.same_by_names(is_true, book=book)
        self.same_by_names(lying_course, book=book)
        self.same_by_names(is_honest, bench=plain(), readings=[SEEN], line=GOOD)
        named = dict(bench=double(), readings=[], mark=M, stop=S)
        self.same_by_names(honest_stirs, **named)
        self.same_by_names(honest_change, **named, stir={"x": 1, "y": 1})
        self.same_by_names(why_not_honest, **named, stir={"x": 1})
        self.same_by_names(is_why_not_honest, **named, stir={"x": 1}, value=[([], 0, 1), ([], 1, 4)])
        self.assertEqual(Book(lines=[GOOD], bench=plain()), Book(plain(), [GOOD]))
        self.assertEqual(greatest_book(readings=[], bench=plain()), greatest_book(plain(), []))
        self.assertEqual(joined(other=book, one=book), joined(book, book))


if __name__ == "__main__":
    unittest.main()
