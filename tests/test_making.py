"""Making: [45], [46] and [47]."""

import itertools
import random

from tests.checks import Checks, bent_ones
from tests.machines import Machine
from tests.odd import odd_objects
from tests.stock import chance_stock
from tests.test_runs import chance_programs, nested
from tests.test_spans import summing, summing_rows
from truestops.alike import alike
from truestops.benches import Bench, mark_word, marks, out_of_order, stops_of
from truestops.errors import InvalidBench, InvalidCount, InvalidPrime, InvalidProgram, InvalidSum, UnknownStop
from truestops.making import are_straight, bare_stops, is_made, made, straight, unread
from truestops.programs import Program, all_stops, in_sight
from truestops.reading import read_rule
from truestops.rows import Rows

NOTHING = ([], [])


def is_made_of(program, rows):
    """Whether rows are made of a program, point by point of what [45] says."""
    if (rows.prime(), rows.boxes()) != (program.prime(), 3) or not alike(program, rows):
        return False
    bench = Bench(program, rows)
    if out_of_order(bench) is not None:
        return False
    for stop in all_stops(program):
        told = [mark for mark in marks(bench) if stops_of(bench, mark) == [stop] and mark_word(bench, mark)[0] == "true"]
        if not any(all(read_rule(bench, mark, stop, {v: 1}) is not None for v in in_sight(program, stop).values()) for mark in told):
            return False
    return True


def wide():
    """Six variables at once, calls three deep with two values and two results each, a block beside another one."""
    procedures = [
        ("main", ["p"], ["q"], ([], [("read", "ib", "p"), ("set", "ic", "q", {"p": 1, "": 1})])),
        ("mid", ["m"], ["n"], ([], [("call", "ma", "main", [{"m": 1, "": 2}], ["n"])])),
        ("top", [], [], ([], [("call", "ta", "mid", [{"g": 3}], ["g"])])),
        ("never", ["a", "b", "c"], [], (["d", "e", "f", "h", "i", "j"], [("pass", "na")])),
    ]
    return Program(5, ["g"], procedures, (["k"], [("call", "ca", "top", [], []), ("set", "cb", "k", {"g": 1, "k": 1}), ("call", "cc", "top", [], []), ("print", "cd", {"k": 1})]))


def swapping():
    swap = ("swap", ["x", "y"], ["a", "b"], ([], [("set", "s", "a", {"y": 1}), ("set", "t", "b", {"x": 1}), ("set", "u", "m", {})]))
    steps = [("read", "ra", "m"), ("read", "rb", "n"), ("call", "c", "swap", [{"m": 1}, {"n": 1}], ["m", "n"]), ("print", "p", {"m": 1, "n": 3}),
             ("call", "d", "swap", [{"m": 1}, {"m": 1, "n": 1}], ["n", "n"]), ("print", "o", {"n": 1})]
    return Program(5, ["m", "n"], [swap], ([], steps))


def keep():
    return Program(5, ["x"], [], ([], [("read", "a", "x"), ("print", "b", {"x": 2}), ("print", "c", {"x": 1})]))


KEPT = [("mark", "i", [("a",)]), ("read", 0), ("mark", "j", [("b",)]), ("copy", 1, 0), ("times", 0, 2), ("print", 0), ("mark", "k", [("c",)]), ("print", 1), ("end",)]


def kept(rows=None, boxes=3, prime=5, cells=0):
    return Rows(prime, boxes, {"main": (cells, rows or KEPT)})


class Point45(Checks):
    def test_programs_by_chance(self):
        tried = 0
        for _, _, program in chance_programs(range(250)):
            rows = made(program)
            self.assertTrue(is_made_of(program, rows))
            self.assertIs(is_made(program, rows), True)
            tried += 1
        self.assertGreater(tried, 200)

    def test_told_programs(self):
        arms = [([], [("pass", "b")]), (["u"], [("read", "c", "u"), ("print", "d", {"u": 1})]), (["v", "w"], [("set", "e", "v", {"w": 1, "": 2})]), ([], [])]
        own = Program(3, ["x"], [], (["y"], [("again", "a", (["z"], [("set", "f", "z", {"z": 1, "": 1}), ("print", "g", {"z": 1})])), ("pick", "p", arms)]))
        for program in [summing(), nested(), wide(), swapping(), keep(), own, Program(5, [], [], NOTHING), Program(2, ["x"], [], (["y"], []))]:
            self.assertTrue(is_made_of(program, made(program)))
            self.assertIs(is_made(program, made(program)), True)

    def test_at_the_limits(self):
        for prime in [2, 3, 5, 65537]:
            names = ["u", "v", "w", "x", "y", "z"]
            wanted = {name: prime - 1 for name in names[:3]}
            steps = [("read", "r" + name, name) for name in names] + [("set", "s" + name, name, {**wanted, "": 1}) for name in names]
            program = Program(prime, names, [], ([], steps))
            self.assertIs(is_made(program, made(program)), True)
            arms = [([], [("print", "p" + name, {**wanted, "": 1})]) for name in names[:4]]
            again = Program(prime, names, [], ([], [("again", "g", ([], [("pick", "p", arms), ("read", "r", "u")])), ("print", "o", {"z": 1})]))
            self.assertIs(is_made(again, made(again)), True)

    def test_somewhat_beyond_the_limits_no_error_is_raised(self):
        for many in [7, 8, 9, 12]:
            names = ["v" + sign for sign in "abcdefghijkl"[:many]]
            made(Program(5, names, [], ([], [("read", "a", names[-1])])))
            procedure = ("p", names[:5], names[5:], ([], [("pass", "z")]))
            made(Program(5, ["x"], [procedure], ([], [("call", "c", "p", [{}] * 5, ["x"] * (many - 5))])))

    def test_rows_that_miss_one_thing_each(self):
        self.assertIs(is_made(keep(), kept()), True)
        self.assertIs(is_made(keep(), kept(cells=2)), True)
        self.assertIs(is_made(keep(), kept(KEPT[:1] + [("mark", "z", [("a",)])] + KEPT[1:])), True)
        mark = {row[1]: row for row in KEPT if row[0] == "mark"}
        read, copy, times, put, other, end = [row for row in KEPT if row[0] != "mark"]
        missing = {
            "boxes": kept(boxes=4), "fewer boxes": kept(boxes=2), "prime": kept(prime=7),
            "print": kept([mark["i"], read, mark["j"], copy, times, put, mark["k"], put, end]),
            "end": kept([mark["i"], read, mark["j"], copy, times, put, mark["k"], other, read, end]),
            "no mark": kept([mark["i"], read, mark["j"], copy, times, put, other, end]),
            "stray": kept([mark["i"], read, mark["j"], copy, times, put, ("mark", "k", [("b",), ("c",)]), other, end]),
            "uneven": kept([mark["i"], read, mark["j"], copy, times, mark["k"], put, other, end]),
            "two stops": kept([mark["i"], read, mark["j"], copy, times, put, ("mark", "k", [("c",), ("z",)]), other, end]),
            "another stop": kept([mark["i"], read, mark["j"], copy, times, put, ("mark", "k", [("z",)]), other, end]),
        }
        for word, value in missing.items():
            self.assertIs(is_made(keep(), value), False, word)
        both = Program(5, ["x", "y"], [], ([], [("read", "a", "x"), ("read", "b", "y"), ("print", "c", {"x": 1, "y": 1})]))
        rows = [("mark", "i", [("a",)]), ("read", 0), ("mark", "j", [("b",)]), ("read", 1), ("mark", "k", [("c",)]), ("add", 0, 1), ("print", 0), ("end",)]
        self.assertIs(is_made(both, kept(rows)), True)
        self.assertIs(is_made(both, kept(rows[:4] + [("add", 0, 1), ("set", 1, 0), rows[4], ("print", 0), ("end",)])), False)
        order = Program(5, [], [], ([], [("pass", "a"), ("pass", "b")]))
        rows = [("mark", "i", [("a",)]), ("mark", "j", [("b",)]), ("end",)]
        self.assertEqual((is_made(order, kept(rows)), is_made(order, kept([rows[1], rows[0], rows[2]]))), (True, False))

    def test_one_mark_has_to_let_all_be_read(self):
        both = Program(5, ["x", "y"], [], ([], [("read", "a", "x"), ("read", "b", "y"), ("pick", "p", [NOTHING, NOTHING]), ("pass", "c")]))
        rows = [("mark", "i", [("a",)]), ("read", 0), ("mark", "j", [("b",)]), ("read", 1), ("mark", "k", [("p",)]), ("pick", [6, 9])]
        one, other, end = ("mark", "m", [("c",)]), ("mark", "n", [("c",)]), ("end",)
        self.assertIs(is_made(both, kept(rows + [one, end, end, other, end])), True)
        # The one mark lets x be read, the other one y, and none both.
        apart = kept(rows + [("set", 1, 0), one, end, ("set", 0, 0), other, end])
        self.assertIs(is_made(both, apart), False)
        self.assertEqual((unread(Bench(both, apart), ("c",)), bare_stops(Bench(both, apart))), ([], []))
        self.assertIs(is_made(both, kept(rows + [("set", 1, 0), one, end, other, end])), True)

    def test_any_object(self):
        for value in odd_objects() + [Rows, summing(), summing_rows(), made(keep()).units(), Bench(keep(), made(keep()))]:
            self.assertIs(is_made(keep(), value), False)

    def test_no_program(self):
        odd = [thing for thing in odd_objects() if not isinstance(thing, Program)] + [summing_rows()]
        self.refused_all(InvalidProgram, odd, made, None, at=0)
        self.refused_all(InvalidProgram, odd, is_made, None, None, at=0)


class Point46(Checks):
    def test_bare_and_unread_against_the_words_of_marks(self):
        told = [0, 0, 0]
        for stock in chance_stock(range(200), 2, 0):
            bench = stock.bench
            program = bench.program()
            own = {stop: [m for m in marks(bench) if stops_of(bench, m) == [stop] and mark_word(bench, m)[0] == "true"] for stop in all_stops(program)}
            bare = bare_stops(bench)
            self.assertEqual(bare, sorted(stop for stop in own if not own[stop]))
            told[0] += len(bare)
            for stop in own:
                holders = sorted(in_sight(program, stop).values())
                found = [v for v in holders if not any(read_rule(bench, m, stop, {v: 1}) is not None for m in own[stop])]
                self.assertEqual(unread(bench, stop), found)
                told[1 + (stop in bare)] += len(found)
        self.assertGreater(min(told), 3)

    def test_made_ones_have_none(self):
        for program in [summing(), nested(), wide(), swapping()]:
            bench = Bench(program, made(program))
            self.assertEqual((bare_stops(bench), [unread(bench, stop) for stop in all_stops(program)]), ([], [[] for _ in all_stops(program)]))

    def test_told_ones(self):
        bench = Bench(summing(), summing_rows())
        self.assertEqual(bare_stops(bench), [("a",), ("b",), ("c",)])
        self.assertEqual([unread(bench, (stop,)) for stop in "abcd"], [["x", "y"], ["x", "y"], ["x", "y"], []])
        part = Rows(5, 2, {"main": (0, [("read", 0), ("copy", 1, 0), ("mark", "m", [("a",)]), ("set", 0, 0), ("mark", "n", [("b",)]), ("print", 0), ("end",)])})
        lost = Bench(Program(5, ["x", "y"], [], ([], [("read", "r", "x"), ("set", "a", "y", {"x": 1}), ("set", "b", "y", {}), ("print", "c", {})])), part)
        self.assertEqual([unread(lost, ("a",)), unread(lost, ("b",)), unread(lost, ("c",)), bare_stops(lost)], [[], [], ["x", "y"], [("c",), ("r",)]])

    def test_variables_are_told_by_their_holders(self):
        inner = ("p", ["u"], ["v"], (["t"], [("pass", "s")]))
        program = Program(5, ["g"], [inner], ([], [("call", "c", "p", [{}], ["g"])]))
        bench = Bench(program, Rows(5, 1, {"main": (0, [("end",)])}))
        self.assertEqual([unread(bench, ("c", "s")), unread(bench, ("c",))], [["c.t", "c.u", "c.v", "g"], ["g"]])

    def test_wrong_arguments(self):
        self.refused_all(InvalidBench, odd_objects() + [summing()], bare_stops, None, at=0)
        self.refused_all(InvalidBench, odd_objects() + [summing()], unread, None, ("a",), at=0)
        self.refused_all(UnknownStop, odd_objects() + [("e",), ["a"], "a", ("a", "a"), ("m", ())], unread, Bench(summing(), summing_rows()), None, at=1)


class Point47(Checks):
    def worth(self, prime, wanted, cells):
        return sum(n * (cells[int(name[3:])] if name else 1) for name, n in wanted.items()) % prime

    def box_behind(self, prime, rows, boxes, cells):
        machine = Machine(prime, 2, {})
        machine.boxes, machine.frames = list(boxes), [list(cells)]
        for row in rows:
            machine.do(row)
        return machine.boxes[0]

    def test_sums_of_up_to_eight_cells(self):
        chance = random.Random(47)
        for prime in [2, 3, 5, 65537]:
            for cells in range(9):
                keys = [f"@0.{k}" for k in range(cells)] + [""]
                for wanted in [{}, {key: prime - 1 for key in keys}, {key: 1 for key in keys}, {key: chance.randrange(1, prime) for key in keys if chance.random() < 0.5}, {"": 1}]:
                    rows = straight(prime, cells, wanted)
                    self.assertLessEqual({row[0] for row in rows}, {"set", "copy", "times", "more", "add", "take"})
                    self.assertIs(are_straight(prime, cells, wanted, rows), True)
                    for _ in range(4):
                        held = [chance.randrange(prime) for _ in range(cells)]
                        boxes = [chance.randrange(prime), chance.randrange(prime)]
                        self.assertEqual(self.box_behind(prime, rows, boxes, held), self.worth(prime, wanted, held))

    def test_judge_by_what_all_boxes_and_cells_come_to(self):
        chance, told = random.Random(48), {True: 0, False: 0}
        words = [("set", 0, 1), ("set", 1, 0), ("copy", 0, 1), ("copy", 1, 0), ("times", 0, 2), ("more", 0, 1), ("add", 0, 1), ("add", 0, 0), ("take", 0, 0), ("take", 1, 1), ("take", 1, 0)]
        for _ in range(1500):
            rows = [chance.choice(words) for _ in range(chance.randint(0, 4))]
            behind = [self.box_behind(3, rows, held[:2], held[2:]) for held in itertools.product(range(3), repeat=4)]
            for wanted in [{}, {"@0.0": 1}, {"": 1}, {"@0.0": 1, "@0.1": 1}, {"@0.1": 1}, {"": 1, "@0.0": 2}]:
                right = behind == [self.worth(3, wanted, held[2:]) for held in itertools.product(range(3), repeat=4)]
                self.assertIs(are_straight(3, 2, wanted, rows), right)
                told[right] += 1
        self.assertGreater(told[True], 100)

    def test_bent_lists(self):
        wanted = {"": 1, "@0.1": 3}
        good = [("take", 0, 1), ("times", 0, 3), ("more", 0, 1)]
        right = [repr(good), repr(good + [("set", 1, 4)])]
        for value in [good, good + [("set", 1, 4)], [("add", 1, 0)] + good]:
            self.assertIs(are_straight(5, 2, wanted, value), True)
        for bent in bent_ones(good) + odd_objects() + [tuple(good), good + [("keep", 0, 0)], good + [("print", 0)], good + [("set", 2, 0)], good + [("fetch", 1, 0)], good + [("take", 1, 2)],
                                                       good + [("end",)], good + [("mark", "m", [("s",)])], [("take", 0, 1), ("times", 0, 8), ("more", 0, 1)], good + [("set", True, 0)]]:
            harmless = type(bent) is list and bent[:1] == good[:1] * 2 and bent[1:] == good
            self.assertIs(are_straight(5, 2, wanted, bent), repr(bent) in right or harmless, bent)
        self.assertIs(are_straight(5, 0, {}, []), False)
        self.assertIs(are_straight(5, 0, {}, [("set", 0, 0)]), True)
        self.assertIs(are_straight(5, 0, {}, [("times", 0, 0)]), True)

    def test_wrong_arguments(self):
        for function, more in [(straight, []), (are_straight, [None])]:
            self.refused_all(InvalidPrime, [0, 1, 4, 65539, True, None, "5", [5]], function, 5, None, None, *more, at=0)
            self.refused_all(InvalidCount, [9, -1, True, False, None, "2", [2], 10 ** 30, 2.0], function, 5, None, None, *more, at=1)
            bad = [None, [], (), 0, "", {"@0.2": 1}, {"@0.0": 0}, {"@0.0": 5}, {"@1.0": 1}, {"#0": 1}, {"x": 1}, {"@0.00": 1}, {"": 0}, {"": True}, {1: 1}, {"@0.0": 1, "@0.9": 1}, {"@0": 1}]
            self.refused_all(InvalidSum, bad, function, 5, 2, None, *more, at=2)
            self.refused(InvalidSum, {"@0.0": 1}, function, 5, 0, {"@0.0": 1}, *more)


class Results(Checks):
    def test_results_may_be_changed_and_names(self):
        for program in [summing(), wide()]:
            self.assertEqual(made(program=program), made(program))
            made(program).units()["main"][1].clear()
            self.assertEqual(made(program), made(program))
            self.same_by_names(is_made, program=program, value=made(program))
        bench = Bench(summing(), summing_rows())
        self.unhurt(bare_stops, bench)
        self.same_by_names(bare_stops, bench=bench)
        self.unhurt(unread, bench, ("a",))
        self.same_by_names(unread, bench=bench, stop=("a",))
        self.unhurt(straight, 5, 2, {"": 1, "@0.1": 3})
        self.same_by_names(straight, prime=5, cells=2, wanted={"": 1, "@0.1": 3})
        self.unhurt(are_straight, 5, 1, {"": 1}, [("set", 0, 1)])
        self.same_by_names(are_straight, prime=5, cells=1, wanted={"": 1}, value=[("set", 0, 1)])
