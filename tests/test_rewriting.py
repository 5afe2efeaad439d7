"""Rewriting rows: [50], [51], [52] and [53]."""

import itertools
import random

from tests.brute import Engine
from tests.checks import Checks
from tests.machines import ChanceRows, Machine, letters_for
from tests.odd import odd_objects
from tests.stock import engines_by_chance
from tests.test_alike import bent_rows
from tests.test_rows import ring_of_units, sound_rows
from tests.test_spans import NOUGHT, ON, ONE, ROUND, summing, summing_rows
from truestops.alike import alike, parting_inputs
from truestops.errors import InvalidCount, InvalidRows, UnlikePrimes, Unsound
from truestops.rewriting import (
    boxes_called,
    calls_opened,
    idle_left_out,
    idle_rows,
    is_calls_opened,
    is_idle_left_out,
    is_tails_joined,
    lost_stops,
    parting_passes,
    passes_alike,
    tails_joined,
)
from truestops.rows import Rows, marks_of, run_rows

END = ("end",)
CHANGING = ("set", "copy", "times", "more", "add", "take", "keep", "fetch", "store")


def main_of(*rows, prime=5, boxes=2, cells=0, **units):
    return Rows(prime, boxes, {"main": (cells, list(rows)), **units})


def mark(name, *stops):
    return ("mark", name, [tuple(stop) for stop in stops])


def passed_told(told, parts):
    """What a beat passes: the stops of each mark, and the numbers printed ahead of it."""
    stops = {row[1]: row[2] for _, rows in parts[2].values() for row in rows if row[0] == "mark"}
    return [([path + stop for stop in stops[name]], many) for (name, path), _, many in told.passed]


class Against(Checks):
    def first_unlike(self, one, other, most):
        """The least inputs of few letters in whose last beat two rows print or pass unlike, or None."""
        level = [[]]
        for _ in range(most + 1):
            following = []
            for inputs in level:
                mine, theirs = one.told(inputs), other.told(inputs)
                told = [(told.beats[-1], told.asked, passed_told(told, engine.parts)) for told, engine in [(mine, one), (theirs, other)]]
                if told[0] != told[1]:
                    return inputs
                following += [inputs + [letter] for letter in letters_for(mine.asked, one.prime)]
            level = following
        return None

    def look_beside(self, one, other, told):
        most = 5 if one.prime == 2 else 4
        found = parting_passes(one.engine, other.engine)
        self.assertIs(passes_alike(one.engine, other.engine), found is None)
        told[found is None] += 1
        first = self.first_unlike(one, other, most)
        self.assertEqual(found if found is None or len(found) <= most else None, first)


def renamed(parts, chance):
    """Rows with other names of marks, and perhaps one mark left out, put twice, or with another stop."""
    prime, boxes, units = parts
    names = {}
    found = {}
    for name, (cells, rows) in units.items():
        rows = [("mark", names.setdefault(row[1], "z" + row[1]), row[2]) if row[0] == "mark" else row for row in rows]
        at = [k for k, row in enumerate(rows) if row[0] == "mark"]
        if at and chance.random() < 0.5:
            rows[at[-1]] = chance.choice([("mark", "other", [("q",)]), ("copy", 0, 0), rows[at[-1]]])
        found[name] = (cells, rows)
    return (prime, boxes, found)


class Point50(Against):
    def test_against_all_inputs_of_few_letters(self):
        told, chance = {True: 0, False: 0}, random.Random(50)
        for prime in [2, 3]:
            for seed in range(150):
                parts = ChanceRows(seed, prime).parts()
                try:
                    one = Engine(parts, False)
                    for other in [Engine(renamed(parts, chance), False), Engine(bent_rows(chance, parts), False)]:
                        self.look_beside(one, other, told)
                except Unsound:
                    continue
        self.assertGreater(min(told.values()), 40)

    def test_names_mean_nothing_and_stops_do(self):
        one = main_of(mark("m", "s"), END)
        self.assertIs(passes_alike(one, main_of(mark("n", "s"), END)), True)
        for other in [main_of(mark("m", "t"), END), main_of(mark("m", "s", "t"), END), main_of(mark("m", "s"), mark("n", "s"), END), main_of(END), main_of(mark("m", "ss"), END)]:
            self.assertEqual((passes_alike(one, other), passes_alike(other, one)), (False, False))
            self.assertEqual((parting_passes(one, other), parting_passes(other, one)), ([], []))

    def test_marks_with_paths_have_their_stops_behind_these(self):
        called = main_of(("call", "one", "c"), END, one=(0, [mark("m", "s"), ("back",)]))
        self.assertIs(passes_alike(called, main_of(mark("m", ("c", "s")), END)), True)
        self.assertIs(passes_alike(called, main_of(mark("m", "s"), END)), False)

    def test_a_mark_moved_across_a_print(self):
        one = main_of(("read", 0), mark("m", "s"), ("print", 0), END)
        self.assertEqual(parting_passes(one, main_of(("read", 0), ("print", 0), mark("m", "s"), END)), [NOUGHT])
        self.assertIsNone(parting_passes(one, main_of(("read", 0), ("copy", 1, 0), mark("m", "s"), ("print", 1), END)))
        self.assertEqual(parting_passes(one, main_of(mark("m", "s"), ("read", 0), ("print", 0), END)), [])

    def test_the_order_of_marks(self):
        one = main_of(mark("m", "s"), mark("n", "t"), END)
        self.assertIs(passes_alike(one, main_of(mark("n", "s"), mark("m", "t"), END)), True)
        self.assertIs(passes_alike(one, main_of(mark("n", "t"), mark("m", "s"), END)), False)

    def test_printing_unlike_shows_first_where_it_comes_first(self):
        one = main_of(("read", 0), ("print", 0), ("pick", [3, 4]), END, mark("m", "s"), END)
        self.assertEqual(parting_passes(one, main_of(("read", 0), ("set", 0, 0), ("print", 0), ("pick", [4, 4]), END)), [ONE])
        self.assertEqual(parting_passes(one, main_of(("read", 0), ("print", 0), ("pick", [3, 3]), END)), [NOUGHT, ROUND])
        self.assertEqual(parting_inputs(one, main_of(("read", 0), ("print", 0), ("pick", [3, 3]), END)), None)


class Wrong(Checks):
    def test_rows(self):
        good = main_of(END)
        odd = odd_objects() + [summing(), ring_of_units(), Rows]
        for function, more in [(calls_opened, []), (is_calls_opened, [None]), (tails_joined, []), (is_tails_joined, [None]), (idle_rows, []), (idle_left_out, []),
                               (is_idle_left_out, [None]), (boxes_called, [None])]:
            self.refused_all(InvalidRows, odd, function, None, *more, at=0)
        for function in [passes_alike, parting_passes, lost_stops]:
            self.refused_all(InvalidRows, odd, function, None, good, at=0)
            self.refused_all(InvalidRows, odd, function, good, None, at=1)
            for other in [main_of(END, prime=7), main_of(END, prime=2, boxes=4)]:
                self.refused(UnlikePrimes, other, function, good, other)
                self.refused(UnlikePrimes, good, function, other, good)

    def test_orders(self):
        for bad in odd_objects() + [[0], [0, 1, 2], [0, 0], [1, 2], [True, 0], [0, True], (0, 1), {0: 1, 1: 0}, [0, -1], [0, "1"], [[0], [1]], [1]]:
            self.refused(InvalidCount, bad, boxes_called, main_of(END), bad)
        self.refused(InvalidCount, [], boxes_called, main_of(END, boxes=1), [])

    def test_judges_of_any_object(self):
        for rows in [main_of(("read", 0), ("print", 0), END), Rows(*ring_of_units())]:
            for value in odd_objects() + [rows.units(), rows.prime(), Rows, "rows", summing()]:
                for function in [is_calls_opened, is_tails_joined, is_idle_left_out]:
                    self.assertIs(function(rows, value), False)
            other = Rows(7, rows.boxes(), {name: (cells, told) for name, (cells, told) in rows.units().items()})
            wider = Rows(5, rows.boxes() + 1, rows.units())
            for function in [is_calls_opened, is_tails_joined, is_idle_left_out]:
                self.assertEqual((function(rows, other), function(rows, wider)), (False, False))


def made_and_chance(seeds, prime):
    """Engines of rows made of programs by chance, and of rows by chance."""
    for _, engine in engines_by_chance(seeds, prime):
        yield engine
    for parts, _ in sound_rows(seeds, prime):
        yield Engine(parts, False)


def live_cells(rows):
    """The most cells that live at once, by the paths."""
    from truestops.rows import paths_of
    return max(len([holder for holder in holders if holder[0] == "@"]) for holders in paths_of(rows).values())


class Point51(Against):
    def test_calls_opened(self):
        tried = 0
        for prime in [2, 3]:
            for one in made_and_chance(range(150), prime):
                if live_cells(one.engine) > 7:
                    continue
                found = calls_opened(one.engine)
                self.assertEqual((found.prime(), found.boxes()), (one.prime, one.engine.boxes()))
                self.assertFalse(any(row[0] == "call" for _, rows in found.units().values() for row in rows))
                self.assertIs(is_calls_opened(one.engine, found), True)
                self.assertIsNone(self.first_unlike(one, Engine((one.prime, found.boxes(), found.units()), False), 4))
                tried += any(row[0] == "call" for _, rows in one.engine.units().values() for row in rows)
        self.assertGreater(tried, 40)

    def test_calls_within_calls_in_rounds(self):
        rows = Rows(*ring_of_units())
        found = calls_opened(rows)
        self.assertIs(passes_alike(rows, found), True)
        self.assertEqual(sorted(stops for _, stops in marks_of(found)), sorted(stops for _, stops in marks_of(rows)))

    def test_seven_cells(self):
        inner = {"one": (3, [("keep", 2, 1), ("call", "two", "d"), ("take", 0, 2), ("print", 0), ("back",)]), "two": (2, [("take", 0, 1), ("print", 0), ("keep", 1, 1), ("back",)])}
        rows = main_of(("read", 0), ("keep", 1, 0), ("copy", 1, 0), ("call", "one", "c"), ("take", 0, 1), ("print", 0), ("pick", [0, 7]), END, cells=2, boxes=2, **inner)
        self.assertEqual(live_cells(rows), 7)
        found = calls_opened(rows)
        self.assertIs(is_calls_opened(rows, found), True)
        self.assertEqual(run_rows(found, [ONE, ON, ("number", 3)])[0], [[], [0, 1, 1], [], [0, 3, 3]])

    def test_bent_ones(self):
        rows = main_of(("read", 0), ("call", "one", "c"), ("print", 0), END, one=(0, [("more", 0, 1), mark("m", "s"), ("back",)]))
        plain = [("read", 0), ("more", 0, 1), mark("m", "cs"), ("print", 0), END]
        self.assertIs(is_calls_opened(rows, main_of(*plain)), True)
        self.assertIs(is_calls_opened(rows, main_of(*plain, other=(3, [("back",)]))), True)
        self.assertIs(is_calls_opened(rows, main_of(*plain, cells=3)), True)
        wrong = [rows, main_of(*plain, boxes=3), main_of(*plain, prime=7), main_of(*plain[:2], plain[3], END), main_of(*plain[:2], mark("m", "s"), *plain[3:]),
                 main_of(("read", 0), ("more", 0, 2), *plain[2:]), main_of(*plain, other=(0, [("call", "next", "c"), ("back",)]), next=(0, [("back",)]))]
        for value in wrong:
            self.assertIs(is_calls_opened(rows, value), False)
        self.assertIs(is_calls_opened(main_of(*plain), main_of(*plain)), True)


class Point52(Against):
    def twins(self, rows):
        """Whether some unit has two equal rows that lead on to one row, by a plain look at each two."""
        for _, told in rows.units().values():
            for one, other in itertools.combinations(range(len(told)), 2):
                row = told[one]
                if row == told[other] and row[0] not in ("mark", "go", "end", "back"):
                    if row[0] == "pick" or self.target(told, one) == self.target(told, other):
                        return True
        return False

    def target(self, rows, at):
        at += 1
        while rows[at][0] == "go":
            at = rows[at][1]
        return rows[at] if rows[at][0] in ("end", "back") else at

    def alike_rows(self, seed):
        """Rows by chance of which many are equal, or None if they are not sound."""
        chance = random.Random(seed)
        rows = [chance.choice([("print", 0), ("print", 0), ("read", 0), ("more", 0, 1), ("pick", [chance.randrange(9), chance.randrange(9)]), ("go", chance.randrange(9)), END])
                for _ in range(8)]
        try:
            return Engine((2, 1, {"main": (0, rows + [END])}), False)
        except Unsound:
            return None

    def test_tails_joined(self):
        tried = 0
        alike_ones = [one for one in map(self.alike_rows, range(500)) if one]
        for prime in [2, 3]:
            for one in itertools.chain(made_and_chance(range(100), prime), alike_ones):
                found = tails_joined(one.engine)
                self.assertFalse(self.twins(found))
                self.assertEqual({name: cells for name, (cells, _) in found.units().items()}, {name: cells for name, (cells, _) in one.engine.units().items()})
                self.assertIs(is_tails_joined(one.engine, found), True)
                self.assertIs(alike(one.engine, found), True)
                self.assertIs(is_tails_joined(one.engine, one.engine), not self.twins(one.engine))
                tried += self.twins(one.engine)
        self.assertGreater(tried, 40)

    def test_each_kind_of_twins(self):
        base = [("read", 0), ("pick", [2, 5])]
        told = [
            (base + [("print", 0), ("print", 0), END, ("print", 0), END], True),
            (base + [("print", 0), ("go", 6), ("go", 6), ("print", 0), END], True),
            (base + [("print", 0), ("go", 4), ("go", 7), ("print", 0), ("go", 4), END], True),
            (base + [("print", 0), END, END, ("print", 1), END], False),
            (base + [("print", 0), ("print", 0), END, ("set", 0, 1), END], False),
            (base + [("print", 0), mark("m", "s"), END, ("print", 0), mark("n", "s"), END], False),
            (base + [mark("m", "s"), END, END, mark("n", "s"), END], False),
            (base + [("print", 0), ("go", 5), END, ("print", 0), ("go", 0)], False),
            ([("read", 0), ("pick", [2, 3]), ("pick", [2, 3]), END], True),
            ([("read", 0), ("pick", [2, 3]), ("pick", [3, 2]), END], False),
            ([("print", 0), END, ("print", 0), END], True),
            ([("read", 0), ("go", 0), ("read", 0), ("go", 0), END], True),
            ([("read", 0), ("go", 0), ("read", 0), ("go", 2), END], False),
        ]
        for rows, twins in told:
            rows = main_of(*rows)
            self.assertEqual((self.twins(rows), is_tails_joined(rows, rows)), (twins, not twins), rows.units())
            self.assertIs(is_tails_joined(rows, tails_joined(rows)), True)
        backs = {"one": (0, [("pick", [1, 3]), ("print", 0), ("back",), ("print", 0), ("back",)])}
        rows = main_of(("call", "one", "c"), END, **backs)
        self.assertIs(is_tails_joined(rows, rows), False)
        self.assertIs(is_tails_joined(rows, tails_joined(rows)), True)

    def test_bent_ones(self):
        rows = main_of(("pick", [1, 4]), ("print", 0), mark("m", "s"), END, ("print", 0), mark("n", "t"), END, cells=1, one=(0, [("back",)]))
        right = [("pick", [1, 3]), ("print", 0), END, ("go", 1)]
        one = {"one": (0, [("back",)])}
        self.assertIs(is_tails_joined(rows, main_of(*right, cells=1, **one)), True)
        self.assertIs(is_tails_joined(rows, rows), True)
        for value in [main_of(*right, cells=1), main_of(*right, cells=2, **one), main_of(*right, cells=1, one=(1, [("back",)])), main_of(*right, cells=1, two=(0, [("back",)])),
                      main_of(*right, cells=1, two=(0, [("back",)]), **one), main_of(*right, cells=1, boxes=3, **one), main_of(*right, cells=1, prime=7, **one),
                      main_of(("pick", [1, 3]), ("print", 1), END, ("go", 2), cells=1, **one),
                      main_of(("pick", [1, 3]), ("print", 0), END, ("print", 0), END, cells=1, **one)]:
            self.assertIs(is_tails_joined(rows, value), False)

    def test_lost_stops(self):
        one = main_of(("read", 0), mark("m", "s", "t"), ("pick", [3, 5]), mark("n", "u"), END, END, mark("o", "v"), END)
        self.assertEqual(lost_stops(one, main_of(END)), [("s",), ("t",), ("u",)])
        self.assertEqual(lost_stops(one, main_of(mark("m", "t"), END)), [("s",), ("u",)])
        self.assertEqual(lost_stops(main_of(END), one), [])
        self.assertEqual(lost_stops(main_of(mark("m", "v"), END), one), [("v",)])
        called = main_of(("call", "one", "c"), END, one=(0, [mark("m", "s"), ("back",)]))
        self.assertEqual(lost_stops(called, main_of(mark("m", "cs"), END)), [])
        self.assertEqual(lost_stops(called, main_of(mark("m", "s"), END)), [("c", "s")])

    def test_lost_stops_against_all_inputs_of_few_letters(self):
        for seed in range(0, 120, 2):
            try:
                one, other = [Engine(ChanceRows(k, 2).parts(), False) for k in [seed, seed + 1]]
            except Unsound:
                continue
            passed = [{stop for inputs in engine.inputs(6) for stops, _ in passed_told(engine.told(inputs), engine.parts) for stop in stops} for engine in [one, other]]
            self.assertEqual(lost_stops(one.engine, other.engine), sorted(passed[0] - passed[1]))


class Jolted(Machine):
    """A machine that puts another number into a holder behind each going through a row."""

    jolt = None

    def do(self, row):
        super().do(row)
        path, name, at = self.place
        if self.jolt and (name, at) == self.jolt[0]:
            word, x, y = (row + (None,))[:3]
            held, k = {"keep": (self.frames[-1], x), "store": (self.frames[0], x)}.get(word, (self.boxes, x))
            held[k] = (held[k] + self.jolt[1]) % self.prime


def jolted(parts, jolt, inputs):
    machine = Jolted(*parts)
    machine.jolt = jolt
    run = machine.do_unit("main", ())
    asked = next(run, ("end",))
    for letter in inputs:
        machine.beats.append([])
        try:
            asked = run.send(letter[1])
        except StopIteration:
            asked = ("end",)
    return machine.beats


class Point53(Against):
    def test_idle_rows_against_all_inputs_of_few_letters(self):
        tried = [0, 0]
        for one in made_and_chance(range(110), 2):
            found = idle_rows(one.engine)
            self.assertEqual(found, sorted(found))
            inputs = list(one.inputs(5))
            all_end = max(map(len, inputs)) < 5
            inputs = inputs[-60:]
            gone_through = self.places(one, inputs)
            for name, (_, rows) in one.parts[2].items():
                for at, row in enumerate(rows):
                    if row[0] in CHANGING and (name, at) in gone_through:
                        parted = any(jolted(one.parts, ((name, at), 1), i) != one.told(i).beats for i in inputs)
                        tried[parted] += 1
                        # What few letters do not show may still show later.
                        self.assertFalse(parted and (name, at) in found)
                        if not parted and all_end and len(inputs) < 60:
                            self.assertIn((name, at), found)
                    elif (name, at) in found:
                        self.assertIn(row[0], CHANGING)
        self.assertGreater(min(tried), 100)

    def places(self, one, inputs):
        """The rows that some of these runs go through, by a look at what is come to."""
        from tests.machines import gone_through

        class Watched(Machine):
            found = set()

            def do(self, row):
                self.found.add(self.place[1:])
                super().do(row)
        Watched.found = set()
        for told in inputs:
            run = Watched(*one.parts).do_unit("main", ())
            next(run, None)
            for letter in told:
                try:
                    run.send(letter[1])
                except StopIteration:
                    pass
        return Watched.found

    def test_told_ones(self):
        self.assertEqual(idle_rows(main_of(("set", 0, 1), ("set", 0, 2), ("print", 0), END)), [("main", 0)])
        self.assertEqual(idle_rows(main_of(("set", 1, 1), ("times", 1, 2), ("print", 0), ("copy", 1, 0), END)), [("main", 0), ("main", 1), ("main", 3)])
        self.assertEqual(idle_rows(main_of(("set", 0, 3), ("times", 0, 0), ("print", 0), END)), [("main", 0)])
        self.assertEqual(idle_rows(main_of(("read", 0), END, ("set", 0, 1), END)), [])
        self.assertEqual(idle_rows(main_of(("set", 0, 0), ("print", 0), END)), [])
        self.assertEqual(idle_rows(main_of(("read", 0), ("print", 0), END)), [])

    def test_rows_of_units_that_are_come_to_by_several_paths(self):
        unit = {"one": (1, [("more", 0, 1), ("keep", 0, 0), ("store", 0, 0), ("back",)])}
        rows = main_of(("call", "one", "c"), ("set", 0, 0), ("call", "one", "d"), ("print", 0), END, cells=1, **unit)
        self.assertEqual(idle_rows(rows), [("one", 1), ("one", 2)])
        rows = main_of(("call", "one", "c"), ("set", 0, 0), ("print", 0), END, cells=1, **unit)
        self.assertEqual(idle_rows(rows), [("one", 0), ("one", 1), ("one", 2)])

    def test_frames_begin_with_nothing_in_their_cells(self):
        # What the one call keeps is not what the other one takes.
        units = {"one": (1, [("keep", 0, 0), ("back",)]), "two": (1, [("take", 1, 0), ("add", 0, 1), ("back",)])}
        rows = main_of(("read", 0), ("call", "one", "c"), ("call", "two", "d"), ("print", 0), END, **units)
        self.assertEqual(idle_rows(rows), [("one", 0)])

    def test_what_is_taken_off_again(self):
        # Box 1 is added once, and four times more: of five nothing is left.
        turned = main_of(("read", 1), ("more", 1, 1), ("add", 0, 1), ("times", 1, 4), ("add", 0, 1), ("print", 0), END)
        self.assertEqual((turned.prime(), idle_rows(turned)), (5, [("main", 1)]))
        twice = [("read", 1), ("more", 1, 1), ("add", 0, 1), ("add", 0, 1), ("print", 0), END]
        self.assertEqual([idle_rows(main_of(*twice)), idle_rows(main_of(*twice, prime=2))], [[], [("main", 1)]])
        kept = main_of(("read", 1), ("more", 1, 1), ("add", 0, 1), ("times", 1, 3), ("add", 0, 1), ("print", 0), END)
        self.assertEqual(idle_rows(kept), [])

    def test_a_holder_that_is_asked_for_later(self):
        rows = [("read", 0), ("keep", 0, 0), ("set", 0, 0), ("pick", [4, 6]), ("take", 0, 0), ("print", 0), ("pick", [4, 7]), END]
        self.assertEqual(idle_rows(main_of(*rows, cells=1)), [("main", 2)])
        rows[4] = ("set", 0, 1)
        self.assertEqual(idle_rows(main_of(*rows, cells=1)), [("main", 1), ("main", 2)])

    def test_idle_left_out(self):
        tried = 0
        for prime in [2, 3]:
            for one in made_and_chance(range(150), prime):
                found = idle_left_out(one.engine)
                tried += bool(idle_rows(one.engine))
                self.assertEqual(idle_rows(found), [])
                self.assertEqual(list(found.units()), list(one.engine.units()))
                for name, (_, rows) in found.units().items():
                    self.assertLessEqual(len(rows), len(one.engine.units()[name][1]))
                self.assertIs(is_idle_left_out(one.engine, found), True)
                self.assertIs(is_idle_left_out(one.engine, one.engine), not idle_rows(one.engine))
                self.assertIsNone(self.first_unlike(one, Engine((one.prime, found.boxes(), found.units()), False), 4))
        self.assertGreater(tried, 60)

    def test_bent_ones(self):
        rows = main_of(("read", 0), ("copy", 1, 0), mark("m", "s"), ("print", 0), END, one=(1, [("read", 0), ("back",)]))
        less = [("read", 0), mark("n", "s"), ("print", 0), END]
        one = {"one": (0, [("back",)])}
        self.assertIs(is_idle_left_out(rows, main_of(*less, **one)), True)
        self.assertIs(is_idle_left_out(rows, main_of(("go", 1), *less[:1], ("go", 0), END, one=one["one"])), False)
        for value in [rows, main_of(*less), main_of(*less, two=one["one"]), main_of(*less, boxes=3, **one), main_of(*less, one=(0, [("read", 0)] * 2 + [("back",)])),
                      main_of(*less[:3], ("go", 4), ("go", 5), END, **one), main_of(less[0], *less[2:], **one), main_of(*less[:2], ("print", 1), END, **one),
                      main_of(*less[:3], ("set", 0, 1), END, **one), main_of(less[0], mark("n", "t"), *less[2:], **one)]:
            self.assertIs(is_idle_left_out(rows, value), False)
        # An idle row that no run goes through does not count.
        self.assertIs(is_idle_left_out(rows, main_of(*less, one=(0, [("set", 0, 1), ("back",)]))), True)

    def test_boxes_called(self):
        for prime in [2, 3]:
            for one in made_and_chance(range(60), prime):
                for order in itertools.permutations(range(one.engine.boxes())):
                    found = boxes_called(one.engine, list(order))
                    self.assertIs(passes_alike(one.engine, found), True)
                    back = [order.index(b) for b in range(len(order))]
                    self.assertEqual(boxes_called(found, back), one.engine)
        rows = Rows(5, 3, {"main": (2, [("set", 0, 1), ("copy", 1, 2), ("times", 2, 1), ("more", 1, 2), ("add", 0, 1), ("take", 1, 0), ("keep", 1, 2), ("fetch", 0, 1), ("store", 0, 1),
                                        ("read", 2), ("print", 0), ("pick", [12, 0]), ("go", 13), END])})
        told = [("set", 2, 1), ("copy", 0, 1), ("times", 1, 1), ("more", 0, 2), ("add", 2, 0), ("take", 0, 0), ("keep", 1, 1), ("fetch", 2, 1), ("store", 0, 0),
                ("read", 1), ("print", 2), ("pick", [12, 0]), ("go", 13), END]
        self.assertEqual(boxes_called(rows, [2, 0, 1]).units(), {"main": (2, told)})

    def test_the_primes(self):
        for prime in [2, 3, 5, 65537]:
            rows = main_of(("read", 0), ("more", 0, prime - 1), ("times", 1, prime - 1), ("print", 0), END, prime=prime)
            self.assertEqual(idle_rows(rows), [("main", 2)])
            self.assertIs(is_idle_left_out(rows, idle_left_out(rows)), True)
            self.assertIs(is_calls_opened(rows, calls_opened(rows)), True)


class Results(Checks):
    def test_results_may_be_changed_and_names(self):
        rows, other = Rows(*ring_of_units()), Rows(5, 2, {"main": (1, [mark("m", "s"), END])})
        for function in [calls_opened, tails_joined, idle_left_out]:
            self.assertEqual(function(rows=rows), function(rows))
            function(rows).units()["main"][1].clear()
            self.assertEqual(function(rows), function(rows))
        self.unhurt(idle_rows, summing_rows())
        self.same_by_names(idle_rows, rows=summing_rows())
        for function in [passes_alike, parting_passes, lost_stops]:
            self.unhurt(function, rows, other)
            self.same_by_names(function, one=rows, other=other)
        for function in [is_calls_opened, is_tails_joined, is_idle_left_out]:
            self.same_by_names(function, rows=rows, value=rows)
        order = [1, 0]
        called = boxes_called(rows, order)
        order.reverse()
        self.assertEqual(boxes_called(order=[1, 0], rows=rows), called)
        self.assertEqual(rows, Rows(*ring_of_units()))
