"""Points 75 to 78: moves by pieces, the marks that come next, ladders."""

import itertools
import random
import unittest

from tests.beside import all_beside
from tests.checks import Checks, bent_ones
from tests.odd import odd_objects
from tests.stock import chance_stock, joined_stock
from tests.test_moving import some_stirs, whole_span
from tests.woven import woven_stock
from truestops.benches import Bench, out_of_order
from truestops.errors import (
    InvalidBench,
    InvalidInputs,
    InvalidSum,
    NeverPassed,
    OutOfOrder,
    Stray,
    Uneven,
    UnknownHolder,
    UnknownMark,
    UnknownStop,
)
from truestops.moving import movable_stirs
from truestops.pieces import (
    by_pieces,
    carried,
    first_piece,
    is_first_piece,
    is_piece_ladder,
    next_marks,
    piece_ladder,
    piece_stirs,
)
from truestops.programs import Program
from truestops.rows import Rows

NOUGHT, ONE, ON, OFF = ("number", 0), ("number", 1), ("choice", 1), ("choice", 0)
M, N = ("m", ()), ("n", ())


def bench_of(prime, variables, statements, boxes, rows):
    return Bench(Program(prime, [], [], (variables, statements)), Rows(prime, boxes, {"main": (0, rows)}))


def one_box(rows, prime=5):
    """u and v have one number, and rows that print it twice keep one box."""
    both = Program(prime, ["u", "v"], [], ([], [("read", "r", "u"), ("set", "w", "v", {"u": 1}), ("print", "s", {"u": 1}), ("print", "t", {"v": 1})]))
    return Bench(both, Rows(prime, 1, {"main": (0, [("read", 0), ("mark", "m", [("s",)]), ("print", 0)] + rows + [("print", 0), ("end",)])}))


def parted():
    return one_box([("mark", "n", [("t",)])])


def in_a_round(rows):
    """Again and again u and v are printed, which have one number."""
    steps = [("read", "r", "u"), ("set", "w", "v", {"u": 1}), ("again", "a", ([], [("print", "s", {"u": 1}), ("print", "t", {"v": 1})])), ("pass", "z")]
    return bench_of(5, ["u", "v"], steps, 1, rows)


def out_of_order_bench():
    steps = [("read", "a", "x"), ("pass", "b"), ("pass", "c")]
    return bench_of(5, ["x"], steps, 1, [("read", 0), ("mark", "m", [("c",)]), ("mark", "n", [("b",)]), ("end",)])


class Ahead:
    """What comes from a seat on up to the next true mark, by the second reckonings."""

    def __init__(self, beside):
        self.beside = beside
        self.true = beside.stock.bench.passings.true_seats()

    def next(self, going_on, stir):
        """The next true mark, its stop, what the stir is there and how many numbers are printed by then; or None, None,
        None and how many are printed in all."""
        beside = self.beside
        inputs, many = beside.runs[0][0], 0
        base = beside.beats(inputs, going_on, {}, {})
        for at, (stirred, plain) in enumerate(zip(beside.beats(inputs, going_on, stir, {}), base)):
            marks, begin = plain[2], 0
            if at == 0:
                where = [mark for mark, _, _ in marks].index(beside.mark)
                begin, marks = marks[where][2], marks[where + 1:]
            for mark, _, count in marks:
                stops = [stop for stop, _, _ in plain[0] if (mark, stop) in self.true]
                if stops:
                    return mark, stops[0], self.what_is_left(stops[0], stirred[0], plain[0], stir, at), many + count - begin
            many += len(plain[3]) - begin
        return None, None, None, many

    def what_is_left(self, stop, stirred, plain, stir, at):
        if at == 0 and stop == self.beside.stop:
            return dict(sorted(stir.items()))
        one, other = [[state for told, state, _ in passed if told == stop][0] for passed in (stirred, plain)]
        left = {name: (one[name] - other[name]) % self.beside.prime for name in one}
        return {name: n for name, n in left.items() if n}


def orderly(stocks):
    for stock in stocks:
        if out_of_order(stock.bench) is None:
            yield stock


def stocks(seeds, prime, most=2):
    yield from woven_stock(range(seeds), prime, most, 1)
    yield from orderly(chance_stock(range(seeds), prime, most, 1))
    yield from joined_stock(range(seeds // 4), prime) if prime < 10 else []


class Point75(Checks):
    def test_spaces_are_closed_and_hold_all_that_moves_at_once(self):
        greater = 0
        for prime in [2, 3]:
            for stock in stocks(60, prime):
                for beside in all_beside(stock):
                    args = (stock.bench, beside.mark, beside.stop)
                    span = list(whole_span(prime, piece_stirs(*args)))
                    for stir in movable_stirs(*args):
                        self.assertIn(stir, span)
                    greater += len(span) > len(list(whole_span(prime, movable_stirs(*args))))
                    for amounts in itertools.islice(itertools.product(range(prime), repeat=len(beside.variables)), 40):
                        stir = {name: n for name, n in zip(beside.variables, amounts) if n}
                        self.assertEqual(by_pieces(*args, stir), stir in span)
        self.assertGreater(greater, 10)

    def test_plain_ones(self):
        self.assertEqual(piece_stirs(parted(), M, ("s",)), [{"u": 1}, {"v": 1}])
        self.assertEqual(piece_stirs(parted(), N, ("t",)), [{"u": 1}, {"v": 1}])
        self.assertEqual(piece_stirs(one_box([]), M, ("s",)), [{"u": 1, "v": 1}])
        self.assertEqual(movable_stirs(parted(), M, ("s",)), [{"u": 1, "v": 1}])
        for prime in [2, 3, 65537]:
            self.assertEqual(piece_stirs(one_box([], prime), M, ("s",)), [{"u": 1, "v": 1}])
            self.assertEqual(piece_stirs(one_box([("mark", "n", [("t",)])], prime), M, ("s",)), [{"u": 1}, {"v": 1}])

    def test_rounds(self):
        # One mark in the round is not enough: behind it both are printed ahead of the next one.
        one = in_a_round([("read", 0), ("pick", [6, 2]), ("mark", "m", [("s",)]), ("print", 0), ("print", 0), ("go", 1), ("end",)])
        self.assertEqual(piece_stirs(one, M, ("s",)), [{"u": 1, "v": 1}])
        two = in_a_round([("read", 0), ("pick", [7, 2]), ("mark", "m", [("s",)]), ("print", 0), ("mark", "n", [("t",)]), ("print", 0), ("go", 1), ("end",)])
        self.assertEqual(piece_stirs(two, M, ("s",)), [{"u": 1}, {"v": 1}])
        self.assertEqual(next_marks(two, N, ("t",)), [(M, ("s",))])
        # Nothing but the second one stands there: what is ahead of it in the next round is printed with one box, too.
        late = in_a_round([("read", 0), ("pick", [6, 2]), ("print", 0), ("mark", "n", [("t",)]), ("print", 0), ("go", 1), ("end",)])
        self.assertEqual(piece_stirs(late, N, ("t",)), [{"u": 1, "v": 1}])
        # With a round written out the second one is reached without a mark between.
        out = [("read", 0), ("mark", "m", [("a",)]), ("pick", [11, 3]), ("print", 0), ("mark", "n", [("t",)]), ("print", 0), ("pick", [11, 7]), ("print", 0), ("mark", "o", [("t",)]), ("print", 0), ("go", 6), ("mark", "p", [("z",)]), ("end",)]
        written = in_a_round(out)
        self.assertIsNone(out_of_order(written))
        self.assertEqual(next_marks(written, N, ("t",)), [(("o", ()), ("t",)), (("p", ()), ("z",))])
        self.assertEqual(next_marks(written, M, ("a",)), [(N, ("t",)), (("p", ()), ("z",))])
        self.assertEqual(piece_stirs(written, M, ("a",)), [{"u": 1, "v": 1}])
        self.assertEqual(next_marks(written, ("p", ()), ("z",)), [])
        self.assertEqual(piece_stirs(written, ("p", ()), ("z",)), [{"u": 1}, {"v": 1}])

    def test_arms_and_joined_marks(self):
        arms = [([], [("print", "s", {"u": 1}), ("print", "t", {"v": 1})]), ([], [("print", "x", {"v": 1}), ("print", "y", {"u": 1})])]
        steps = [("read", "r", "u"), ("set", "w", "v", {"u": 1}), ("pick", "p", arms)]
        rows = [("read", 0), ("mark", "m", [("p",)]), ("pick", [3, 5]), ("print", 0), ("go", 6), ("print", 0), ("mark", "n", [("t",), ("y",)]), ("print", 0), ("end",)]
        bench = bench_of(5, ["u", "v"], steps, 1, rows)
        # The number ahead of the joined mark is of u in one arm, of v in the other one, and m is passed ahead of both.
        self.assertEqual(piece_stirs(bench, M, ("p",)), [{"u": 1, "v": 1}])
        self.assertEqual([piece_stirs(bench, N, stop) for stop in [("t",), ("y",)]], [[{"u": 1}, {"v": 1}]] * 2)
        self.assertEqual(next_marks(bench, M, ("p",)), [(N, ("t",)), (N, ("y",))])

    def test_calls(self):
        inner = ("in", ["z"], [], ([], [("print", "s", {"z": 1}), ("print", "t", {"g": 1})]))
        program = Program(3, ["g"], [inner], ([], [("read", "r", "g"), ("call", "c", "in", [{"g": 1}], []), ("call", "d", "in", [{"g": 2}], [])]))
        units = {"main": (0, [("read", 0), ("call", "one", "c"), ("call", "two", "d"), ("end",)]),
                 "one": (0, [("mark", "m", [("s",)]), ("print", 0), ("mark", "n", [("t",)]), ("print", 0), ("back",)]),
                 "two": (0, [("copy", 1, 0), ("times", 1, 2), ("mark", "k", [("s",)]), ("print", 1), ("print", 0), ("back",)])}
        bench = Bench(program, Rows(3, 2, units))
        first, then, last = ("m", ("c",)), ("n", ("c",)), ("k", ("d",))
        self.assertEqual(piece_stirs(bench, first, ("c", "s")), [{"c.z": 1}, {"g": 1}])
        self.assertEqual(carried(bench, first, ("c", "s"), {"c.z": 1, "g": 2}, []), (then, ("c", "t"), {"c.z": 1, "g": 2}))
        self.assertEqual(carried(bench, then, ("c", "t"), {"c.z": 1, "g": 2}, []), (last, ("d", "s"), {"d.z": 1, "g": 2}))
        self.assertIsNone(carried(bench, last, ("d", "s"), {"g": 2}, []))


class Point76(Checks):
    def test_first_pieces_against_runs(self):
        for prime in [2, 3, 5, 65537]:
            chance = random.Random(prime)
            for stock in stocks(40, prime):
                for beside in all_beside(stock):
                    ahead = Ahead(beside)
                    for stir in list(some_stirs(chance, prime, beside.variables, 2)) + [{name: 1} for name in beside.variables[:2]]:
                        args = (stock.bench, beside.mark, beside.stop, stir)
                        piece = first_piece(*args)
                        self.assertEqual(piece is not None, by_pieces(*args))
                        if piece is not None:
                            self.assertTrue(is_first_piece(*args, piece))
                            self.prints_right(chance, ahead, stir, piece)

    def prints_right(self, chance, ahead, stir, piece):
        beside = ahead.beside
        inputs, _, _ = chance.choice(beside.runs)
        for going_on in list(beside.goings_on(2))[:8]:
            mark, stop, left, many = ahead.next(going_on, stir)
            self.assertTrue(all(a == b for a, b in beside.told(inputs, going_on, stir, piece)[:many]))
            if mark is not None:
                self.assertTrue(by_pieces(beside.stock.bench, mark, stop, left))

    def test_all_changes_of_few_holders(self):
        seen = set()
        for stock in woven_stock(range(60), 2, 2, 1):
            for beside in all_beside(stock):
                ahead = Ahead(beside)
                hanging = [h for g in beside.goings_on(3) for h in beside.hangs(g)[:ahead.next(g, {})[3]]]
                for stir in [{}, {"w": 1}, {"ax": 1}]:
                    args = (stock.bench, beside.mark, beside.stop, stir)
                    right = []
                    for amounts in itertools.product(range(2), repeat=len(beside.holders)):
                        change = {name: n for name, n in zip(beside.holders, amounts) if n}
                        shows = all(sum(a * b for a, b in zip(theirs + mine, list(amounts) + [stir.get(name, 0) for name in beside.variables])) % 2 == 0 for mine, theirs in hanging)
                        if is_first_piece(*args, change):
                            right.append(change)
                        seen.add((change in right, shows))
                    self.assertEqual(bool(right), by_pieces(*args))
        # What is right in few letters may be wrong behind more of them.
        self.assertGreaterEqual(seen, {(True, True), (False, False)})
        self.assertNotIn((True, False), seen)

    def test_plain_ones(self):
        self.assertEqual(first_piece(parted(), M, ("s",), {"u": 2}), {"#0": 2})
        self.assertEqual(first_piece(parted(), M, ("s",), {"v": 1}), {})
        self.assertIsNone(first_piece(one_box([]), M, ("s",), {"v": 1}))
        self.assertFalse(is_first_piece(one_box([]), M, ("s",), {"v": 1}, {}))
        self.assertFalse(is_first_piece(one_box([]), M, ("s",), {"v": 1}, {"#0": 1}))
        self.assertTrue(is_first_piece(parted(), M, ("s",), {"v": 1, "u": 3}, {"#0": 3}))
        for value in odd_objects() + [{"#0": 2}, {"#0": 3, "": 1}, {"u": 3}, {"#0": 8}, [("#0", 3)]]:
            self.assertFalse(is_first_piece(parted(), M, ("s",), {"v": 1, "u": 3}, value), value)
        self.unhurt(first_piece, parted(), M, ("s",), {"u": 2, "v": 1})
        self.unhurt(piece_stirs, parted(), M, ("s",))


class Point77(Checks):
    def test_against_runs(self):
        for prime in [2, 3, 65537]:
            chance = random.Random(prime)
            for stock in stocks(40, prime):
                for beside in all_beside(stock):
                    ahead = Ahead(beside)
                    args = (stock.bench, beside.mark, beside.stop)
                    found = set()
                    for going_on in beside.goings_on(4 if prime < 10 else 2):
                        stir = next(some_stirs(chance, prime, beside.variables, 1))
                        mark, stop, left, _ = ahead.next(going_on, stir)
                        told = carried(*args, stir, [(word, n if word == "choice" else chance.randrange(prime)) for word, n in going_on])
                        self.assertEqual(told, None if mark is None else (mark, stop, left))
                        found.add((mark, stop))
                    for told in next_marks(*args):
                        # Some marks are come to by more letters only.
                        if told not in found:
                            found |= {ahead.next(going_on, {})[:2] for going_on in beside.goings_on(7)}
                    self.assertEqual(next_marks(*args), sorted(found - {(None, None)}))

    def test_marks_that_are_not_true_count_not(self):
        # s is stray, u uneven; from t on the next true mark is v, in each round, too, w.
        from tests.test_benches import bad_marks
        bench = bad_marks()
        t, v, w = [(name, ()) for name in "tvw"]
        self.assertEqual(next_marks(bench, t, ("a",)), [(v, ("c",))])
        self.assertEqual(next_marks(bench, v, ("c",)), [(w, ("e",))])
        self.assertEqual(next_marks(bench, w, ("e",)), [(w, ("e",))])
        self.assertEqual(carried(bench, t, ("a",), {"x": 1}, [ONE]), (v, ("c",), {}))
        self.assertIsNone(carried(bench, t, ("a",), {"x": 1}, []))
        self.assertIsNone(carried(bench, v, ("c",), {"x": 1}, []))

    def test_letters(self):
        bench = in_a_round([("read", 0), ("mark", "m", [("a",)]), ("pick", [6, 3]), ("print", 0), ("print", 0), ("go", 2), ("mark", "n", [("z",)]), ("end",)])
        stir = {"u": 1, "v": 2}
        self.assertEqual(next_marks(bench, M, ("a",)), [(N, ("z",))])
        self.assertIsNone(carried(bench, M, ("a",), stir, [ON]))
        self.assertEqual(carried(bench, M, ("a",), stir, [ON, ON, OFF]), (N, ("z",), stir))
        for letters, at in [([NOUGHT], 0), ([ON, OFF, ON], 2), ([ON, ("choice", 2)], 1), ([None], 0), ([ON, ["choice", 0]], 1)]:
            self.refused(InvalidInputs, at, carried, bench, M, ("a",), stir, letters)
        # All letters have to fit, also behind the next mark, and what is there already is told whatever follows.
        tight = in_a_round([("read", 0), ("mark", "m", [("a",)]), ("pick", [7, 3]), ("print", 0), ("mark", "n", [("t",)]), ("print", 0), ("go", 2), ("end",)])
        self.assertEqual(carried(tight, M, ("a",), stir, [ON, ON, OFF]), (N, ("t",), stir))
        self.refused(InvalidInputs, 2, carried, tight, M, ("a",), stir, [ON, ON, ONE])
        self.assertEqual(carried(parted(), M, ("s",), stir, []), (N, ("t",), stir))
        self.refused(InvalidInputs, 0, carried, parted(), M, ("s",), stir, [ON])
        self.assertEqual(carried(parted(), M, ("s",), {}, []), (N, ("t",), {}))
        self.unhurt(carried, bench, M, ("a",), stir, [ON, OFF])
        self.unhurt(next_marks, bench, M, ("a",))

    def test_this_very_stop(self):
        steps = [("read", "a", "x"), ("pass", "b"), ("print", "c", {"x": 1})]
        bench = bench_of(5, ["x"], steps, 1, [("read", 0), ("mark", "m", [("b",)]), ("mark", "n", [("b",)]), ("print", 0), ("end",)])
        self.assertEqual(next_marks(bench, M, ("b",)), [(N, ("b",))])
        self.assertEqual(carried(bench, M, ("b",), {"x": 3}, []), (N, ("b",), {"x": 3}))
        self.assertEqual(next_marks(bench, N, ("b",)), [])


class LadderByHand:
    """Adds up the parts of a ladder by the second reckonings."""

    def __init__(self, stock):
        self.ahead = {(beside.mark, beside.stop): Ahead(beside) for beside in all_beside(stock)}
        self.prime = stock.prime

    def holds(self, ladder, seat, stir):
        steps = []
        for mark, stop, wanted, parts in ladder:
            ahead = self.ahead[(mark, stop)]
            total, rows = dict.fromkeys(ahead.beside.variables, 0), [0] * len(ahead.beside.holders)
            for word, letters, number, factor in parts:
                if word == "print":
                    assert number < ahead.next(letters, {})[3]
                    mine, theirs = ahead.beside.hangs(letters)[number]
                    rows = [(a + factor * b) % self.prime for a, b in zip(rows, theirs)]
                else:
                    told = steps[number]
                    assert ahead.next(letters, {})[:2] == told[:2]
                    mine = [sum(told[2].get(name, 0) * n for name, n in ahead.next(letters, {own: 1})[2].items()) for own in ahead.beside.variables]
                for name, n in zip(ahead.beside.variables, mine):
                    total[name] = (total[name] + factor * n) % self.prime
            if any(rows) or {name: n for name, n in total.items() if n} != wanted:
                return False
            steps.append((mark, stop, wanted))
        return steps[-1][:2] == seat and sum(n * stir.get(name, 0) for name, n in steps[-1][2].items()) % self.prime != 0


class Point78(Checks):
    def test_ladders_against_runs(self):
        lengths = set()
        for prime in [2, 3, 5]:
            chance = random.Random(prime)
            for stock in stocks(100, prime, 3):
                by_hand = LadderByHand(stock)
                for beside in all_beside(stock):
                    for stir in list(some_stirs(chance, prime, beside.variables, 1)) + [{name: 1} for name in beside.variables]:
                        args = (stock.bench, beside.mark, beside.stop, stir)
                        ladder = piece_ladder(*args)
                        self.assertEqual(ladder is None, by_pieces(*args))
                        if ladder is not None:
                            lengths.add(len(ladder))
                            self.assertTrue(is_piece_ladder(*args, ladder))
                            if all((mark, stop) in by_hand.ahead for mark, stop, _, _ in ladder):
                                self.assertTrue(by_hand.holds(ladder, (beside.mark, beside.stop), stir))
        self.assertGreaterEqual(lengths, {1, 2, 3})

    def round_bench(self):
        """From m on a round leads to n, where the numbers of u and v are asked for at once."""
        steps = [("read", "r", "u"), ("set", "w", "v", {"u": 1}), ("again", "a", ([], [("pass", "b")])), ("pass", "c"), ("print", "s", {"u": 1}), ("print", "t", {"v": 1})]
        rows = [("read", 0), ("mark", "m", [("a",)]), ("pick", [4, 3]), ("go", 2), ("mark", "n", [("c",)]), ("print", 0), ("print", 0), ("end",)]
        return bench_of(5, ["u", "v"], steps, 1, rows)

    def test_each_condition_bent(self):
        bench = self.round_bench()
        low = (N, ("c",), {"u": 1, "v": 4}, [("print", [], 0, 1), ("print", [], 1, 4)])
        top = (M, ("a",), {"u": 2, "v": 3}, [("later", [ON, OFF], 0, 2)])
        args = (bench, M, ("a",), {"u": 1})
        self.assertTrue(is_piece_ladder(*args, [low, top]))
        self.assertTrue(is_piece_ladder(*args, [low, low, (M, ("a",), {"u": 1, "v": 4}, [("later", [OFF], 1, 2), ("later", [ON, OFF], 0, 4)])]))
        self.assertTrue(is_piece_ladder(*args, [low, (M, ("a",), {}, []), top]))
        self.assertTrue(is_piece_ladder(*args, [low, top[:3] + ([("later", [ON, OFF], 0, 2), ("later", [OFF], 0, 0)],)]))
        self.assertFalse(is_piece_ladder(bench, M, ("a",), {"u": 2, "v": 2}, [low, top]))
        self.assertFalse(is_piece_ladder(bench, M, ("a",), {}, [low, top]))
        self.assertFalse(is_piece_ladder(bench, N, ("c",), {"u": 1}, [low, top]))
        self.assertTrue(is_piece_ladder(bench, N, ("c",), {"u": 1}, [low]))
        self.assertFalse(is_piece_ladder(*args, [top, low]))
        self.assertFalse(is_piece_ladder(*args, [top]))
        self.assertFalse(is_piece_ladder(*args, [low, (M, ("a",), {"u": 2, "v": 3}, [("later", [OFF], 1, 2)])]))
        right = [[low, top], [low, top[:3] + ([("later", [OFF], 0, 2)],)], [low, top[:3] + ([("later", [ON, ON, OFF], 0, 2)],)]]
        right += [[low, top[:3] + ([part, ("later", [ON, OFF], 0, 0)],)] for part in top[3]] + [[low[:3] + (low[3][::-1],), top]]
        for bent in bent_ones([low, top]) + odd_objects() + [None, []]:
            if bent not in right:
                self.assertFalse(is_piece_ladder(*args, bent), bent)

    def test_bent_sums_and_prints(self):
        bench = self.round_bench()
        args = (bench, N, ("c",), {"u": 1})
        parts = [("print", [], 0, 1), ("print", [], 1, 4)]
        for wanted in [{"u": 1, "v": 4, "": 1}, {"": 1}, {"u": 1}, {"u": 1, "v": 4, "z": 1}, {"u": 1, "v": 4, "x": 0}, {"#0": 1}, [("u", 1)]]:
            self.assertFalse(is_piece_ladder(*args, [(N, ("c",), wanted, parts)]))
        self.assertTrue(is_piece_ladder(*args, [(N, ("c",), {"v": 4, "u": 1}, parts)]))
        # The holders of the rows have to drop out.
        self.assertFalse(is_piece_ladder(*args, [(N, ("c",), {"u": 1}, parts[:1])]))
        # What is printed behind the next true mark does not count at this one.
        marked = parted()
        self.assertFalse(is_piece_ladder(marked, M, ("s",), {"u": 1}, [(M, ("s",), {"u": 1, "v": 4}, parts)]))
        whole = one_box([])
        self.assertTrue(is_piece_ladder(whole, M, ("s",), {"u": 1}, [(M, ("s",), {"u": 1, "v": 4}, parts)]))
        self.assertFalse(is_piece_ladder(whole, M, ("s",), {"u": 1, "v": 1}, [(M, ("s",), {"u": 1, "v": 4}, parts)]))
        self.assertIsNone(piece_ladder(marked, M, ("s",), {"u": 1}))

    def test_prints_on_both_sides_of_an_asking(self):
        steps = [("read", "r", "u"), ("set", "w", "v", {"u": 1}), ("print", "s", {"u": 1}), ("print", "x", {}), ("read", "q", "z"), ("print", "t", {"v": 1})]
        rows = [("read", 0), ("mark", "m", [("s",)]), ("print", 0), ("set", 1, 0), ("print", 1), ("read", 1), ("print", 0), ("end",)]
        bench = bench_of(5, ["u", "v", "z"], steps, 2, rows)
        args = (bench, M, ("s",), {"u": 1})
        step = (M, ("s",), {"u": 1, "v": 4}, [("print", [], 0, 1), ("print", [("number", 3)], 2, 4)])
        self.assertTrue(is_piece_ladder(*args, [step]))
        self.assertFalse(is_piece_ladder(*args, [step[:3] + ([("print", [], 0, 1), ("print", [("number", 3)], 1, 4)],)]))
        told = piece_ladder(*args)
        self.assertTrue(is_piece_ladder(*args, told))
        self.assertEqual(sorted(part[1:3] for part in told[-1][3]), [([], 0), ([("number", 0)], 2)])

    def test_ladders_may_be_changed(self):
        self.unhurt(piece_ladder, self.round_bench(), M, ("a",), {"u": 1})
        self.assertTrue(is_piece_ladder(self.round_bench(), M, ("a",), {"u": 1}, piece_ladder(self.round_bench(), M, ("a",), {"u": 1})))


class Errors(Checks):
    def every(self):
        return [
            (piece_stirs, []), (by_pieces, [{}]), (first_piece, [{}]), (is_first_piece, [{}, {}]), (next_marks, []), (carried, [{}, []]),
            (piece_ladder, [{}]), (is_piece_ladder, [{}, []]),
        ]

    def test_benches_marks_and_stops(self):
        from tests.test_benches import bad_marks
        for function, more in self.every():
            self.refused_all(InvalidBench, odd_objects() + [parted().rows()], function, None, M, ("s",), *more, at=0)
            self.refused_all(OutOfOrder, [out_of_order_bench()], function, None, None, None, *more, at=0)
            self.refused_all(UnknownMark, odd_objects() + [("m",), ("k", ())], function, parted(), None, ("s",), *more, at=1)
            self.refused_all(UnknownStop, odd_objects() + [("t",), "s"], function, parted(), M, None, *more, at=2)
            for name, kind in [("n", NeverPassed), ("s", Stray), ("u", Uneven)]:
                self.refused(kind, (name, ()), function, bad_marks(), (name, ()), 8, *more)

    def test_stirs_and_letters(self):
        for function, more in self.every():
            if more:
                bad = [thing for thing in odd_objects() if type(thing) is not dict] + [{"": 1}, {"u": 0}, {"u": 5}, {1: 1}]
                self.refused_all(InvalidSum, bad, function, parted(), M, ("s",), *more, at=3)
                self.refused(UnknownHolder, "#0", function, parted(), M, ("s",), {"u": 1, "z": 1, "#0": 1}, *more[1:])
        self.refused_all(InvalidInputs, [thing for thing in odd_objects() if type(thing) is not list], carried, parted(), M, ("s",), {}, None, at=4)

    def test_names(self):
        named = dict(bench=one_box([]), mark=M, stop=("s",))
        self.same_by_names(piece_stirs, **named)
        self.same_by_names(next_marks, **named)
        self.same_by_names(by_pieces, **named, stir={"u": 1})
        self.same_by_names(first_piece, **named, stir={"u": 1, "v": 1})
        self.same_by_names(is_first_piece, **named, stir={"u": 1, "v": 1}, value={"#0": 1})
        self.same_by_names(carried, **named, stir={"u": 1, "v": 1}, letters=[])
        self.same_by_names(piece_ladder, **named, stir={"u": 1})
        self.same_by_names(is_piece_ladder, **named, stir={"u": 1}, value=[])


if __name__ == "__main__":
    unittest.main()
