"""Rows and units: [25], [26], [27], [28] and [29]."""

import copy
import itertools
import random

from tests.checks import Checks, bent_ones, spoil
from tests.machines import ChanceRows, letters_for, told_of_rows
from tests.odd import odd_objects
from truestops.errors import (
    InvalidCount,
    InvalidInputs,
    InvalidPrime,
    InvalidRows,
    InvalidUnits,
    Unsound,
)
from truestops.programs import Program
from truestops.rows import Rows, linked, marks_of, passed_marks, paths_of, run_rows, stands, wants

PRIMES = [2, 3, 5, 65537]
BAD_PRIMES = [0, 1, -2, 4, 9, 65535, 65539, 10 ** 30, True, False, None, "5", [5], (5,), {5: 5}]
BAD_BOXES = [0, 5, -1, 10 ** 30, True, False, None, "2", [2], (2,), {}]
END = ("end",)
# One row of each word, with parts at the edges: 3 boxes, the prime 5, 2 cells, of main 3.
GOOD = [
    ("set", 2, 4), ("set", 0, 0), ("copy", 0, 2), ("copy", 1, 1), ("times", 0, 4), ("times", 0, 0), ("more", 2, 0), ("add", 2, 2),
    ("take", 2, 1), ("keep", 1, 2), ("fetch", 2, 2), ("store", 2, 2), ("read", 2), ("print", 0), ("pick", [0, 0]),
    ("pick", [0, 1, 1, 0]), ("go", 1), ("call", "two", "abcdefgh"), ("back",), ("mark", "a", [("b",)]),
    ("mark", "abcdefgh", [("a", "b"), ("a", "b", "c"), ("b",)]),
]
BAD = [
    None, 0, "end", [], (), {}, ("stop",), ("End",), (None,), (["end"],), ["end"], ("end", 0), ("back", 0), ("end", None),
    ("set", 3, 0), ("set", 0, 5), ("set", 0), ("set", 0, 0, 0), ("set", -1, 0), ("set", 0, -1), ("set", True, 0), ("set", 0, True),
    ("set", "#0", 0), ["set", 0, 0], ("copy", 3, 0), ("copy", 0, 3), ("copy", 0, None), ("times", 3, 0), ("times", 0, 5),
    ("more", 3, 0), ("more", 0, 5), ("more", 0, "1"), ("add", 3, 0), ("add", 0, 3), ("take", 3, 0), ("take", 0, 2), ("take", 0, -1),
    ("keep", 2, 0), ("keep", 0, 3), ("keep", False, 0), ("fetch", 3, 0), ("fetch", 0, 3), ("store", 3, 0), ("store", 0, 3),
    ("read", 3), ("read",), ("read", 0, 0), ("read", True), ("print", 3), ("print", None), ("pick", []), ("pick", [0]),
    ("pick", [0] * 5), ("pick", (0, 0)), ("pick", 0, 0), ("pick", [0, -1]), ("pick", [0, True]), ("pick", [0, "0"]), ("pick", {0: 0, 1: 1}),
    ("go",), ("go", -1), ("go", True), ("go", None), ("go", [0]), ("call", "two"), ("call", "Two", "c"), ("call", "two", "C"),
    ("call", "", "c"), ("call", "two", ""), ("call", "two", "abcdefghi"), ("call", "two", ("c",)), ("call", None, "c"),
    ("mark", "m"), ("mark", "m", []), ("mark", "m", [()]), ("mark", "m", ["a"]), ("mark", "m", [["a"]]), ("mark", "m", (("a",),)),
    ("mark", "m", [("A",)]), ("mark", "m", [("",)]), ("mark", "m", [("b",), ("a",)]), ("mark", "m", [("a",), ("a",)]),
    ("mark", "m", [("a", "b"), ("a",)]), ("mark", "M", [("a",)]), ("mark", "", [("a",)]), ("mark", "m", [("a",)], 0),
    ("mark", "m", [("a", 1)]), ("mark", "m", ("a",)), ("mark", "m", [("a",), None]), ("mark", None, [("a",)]),
]


def around(row):
    """Units in which a row may stand whatever it does."""
    rest = [("back",), ("back",)]
    return {"main": (3, [END]), "one": (2, [row] + rest), "two": (0, [("back",)])}


class Point25(Checks):
    def test_each_row(self):
        for row in GOOD:
            units = around(row)
            try:
                self.assertEqual(repr(Rows(5, 3, units).units()), repr(units))
            except Unsound as unsound:
                # A row that goes back to itself has the form of one.
                self.assertEqual((row[0], unsound.value), ("go", None))

    def test_bent_rows(self):
        for row in BAD:
            units = around(row)
            self.refused(InvalidRows, units, Rows, 5, 3, units)
        for row in GOOD:
            for bent in [bent for bent in bent_ones(row) if not self.looks_right(bent)]:
                units = around(bent)
                self.refused(InvalidRows, units, Rows, 5, 3, units)

    def looks_right(self, row):
        """A second, plain look at the form of a row for 3 boxes, the prime 5, 2 cells, of main 3."""
        if type(row) is not tuple or not row or type(row[0]) is not str:
            return False
        box, number, cell, main = [lambda n, most=most: type(n) is int and 0 <= n < most for most in [3, 5, 2, 3]]
        name = lambda n: type(n) is str and 0 < len(n) < 9 and all("a" <= sign <= "z" for sign in n)
        ats = lambda n: type(n) is list and 2 <= len(n) <= 4 and all(type(k) is int and k >= 0 for k in n)
        stop = lambda n: type(n) is tuple and n != () and all(map(name, n))
        stops = lambda n: type(n) is list and n != [] and all(map(stop, n)) and sorted(set(n)) == n
        kinds = {
            "set": [box, number], "copy": [box, box], "times": [box, number], "more": [box, number], "add": [box, box],
            "take": [box, cell], "keep": [cell, box], "fetch": [box, main], "store": [main, box], "read": [box], "print": [box],
            "pick": [ats], "go": [lambda n: type(n) is int and n >= 0], "call": [name, name], "back": [], "end": [], "mark": [name, stops],
        }
        return row[0] in kinds and len(kinds[row[0]]) == len(row) - 1 and all(f(n) for f, n in zip(kinds[row[0]], row[1:]))

    def test_units(self):
        good = (0, [END])
        wrong = [
            {}, {"one": good}, {"Main": good}, {"main": None}, {"main": [0, [END]]}, {"main": (0,)}, {"main": (0, [END], 0)},
            {"main": (0, [])}, {"main": (0, (END,))}, {"main": (9, [END])}, {"main": (-1, [END])}, {"main": (True, [END])},
            {"main": (None, [END])}, {"main": good, "One": (0, [("back",)])}, {"main": good, "": (0, [("back",)])},
            {"main": good, "abcdefghi": (0, [("back",)])}, {"main": good, 1: (0, [("back",)])}, {"main": good, "one": None},
            {"main": good, "one": (0, [])}, {"main": (0, {0: END})}, [("main", good)], ("main", good), {"main": (0, [END, None])},
        ]
        for units in wrong + [thing for thing in odd_objects()]:
            self.refused(InvalidRows, units, Rows, 5, 2, units)
        for cells in range(9):
            self.assertEqual(Rows(5, 2, {"main": (cells, [END])}).units(), {"main": (cells, [END])})

    def test_primes_and_boxes(self):
        for prime, boxes in itertools.product(PRIMES, range(1, 5)):
            rows = Rows(prime, boxes, {"main": (0, [("set", boxes - 1, prime - 1), END])})
            self.assertEqual((rows.prime(), rows.boxes()), (prime, boxes))
        self.refused_all(InvalidPrime, BAD_PRIMES, Rows, 5, 2, {}, at=0)
        self.refused_all(InvalidCount, BAD_BOXES, Rows, 5, 2, {}, at=1)

    def test_they_return_what_they_were_made_of(self):
        units = {"zeta": (1, [("take", 0, 0), ("back",)]), "main": (2, [("mark", "m", [("s",)]), ("pick", [0, 2]), END]), "alpha": (0, [("back",)])}
        handed = copy.deepcopy(units)
        rows = Rows(5, 2, handed)
        self.assertEqual([list(rows.units()), rows.units(), handed], [["alpha", "main", "zeta"], units, units])
        spoil(handed)
        self.assertEqual(rows.units(), units)
        spoil(rows.units())
        self.assertEqual(rows.units(), units)
        handed = {"main": (0, [("mark", "m", [("s",)]), ("pick", [0, 2]), END])}
        rows = Rows(5, 2, handed)
        handed["main"][1][0][2].append(("t",))
        handed["main"][1][1][1][0] = 2
        self.assertEqual(rows.units(), {"main": (0, [("mark", "m", [("s",)]), ("pick", [0, 2]), END])})

    def test_equality(self):
        units = {"main": (1, [("read", 0), ("pick", [0, 2]), END]), "one": (0, [("back",)])}
        rows = Rows(5, 2, units)
        self.assertTrue(rows == Rows(5, 2, dict(reversed(units.items()))))
        self.assertFalse(rows != Rows(5, 2, units))
        others = [
            Rows(7, 2, units), Rows(5, 3, units), Rows(5, 2, {"main": units["main"]}), Rows(5, 2, {**units, "two": (0, [("back",)])}),
            Rows(5, 2, {**units, "main": (2, units["main"][1])}), Rows(5, 2, {**units, "main": (1, [("read", 1), ("pick", [0, 2]), END])}),
            Rows(5, 2, {**units, "main": (1, [("read", 0), ("pick", [2, 0]), END])}),
        ]
        for other in others + odd_objects() + [(5, 2, units), units, Program(5, [], [], ([], []))]:
            self.assertFalse(rows == other)
            self.assertTrue(rows != other)

    def test_by_names(self):
        units = {"main": (1, [("read", 0), END])}
        for order in itertools.permutations([("prime", 5), ("boxes", 2), ("units", units)]):
            self.assertEqual(Rows(**dict(order)), Rows(5, 2, units))


class Point26(Checks):
    def unsound(self, value, units, boxes=2):
        self.refused(Unsound, value, Rows, 5, boxes, units)

    def test_each_kind(self):
        back, call = (0, [("back",)]), ("call", "one", "c")
        self.unsound(("main", 0), {"main": (0, [("go", 2), END])})
        self.unsound(("main", 0), {"main": (0, [("pick", [1, 2]), END])})
        self.unsound(("main", 0), {"main": (0, [("pick", [2, 1, 1]), END])})
        for row in [("set", 0, 0), ("read", 0), ("print", 0), call, ("mark", "m", [("s",)]), ("store", 0, 0)]:
            self.unsound(("main", 1), {"main": (1, [("print", 0), row]), "one": back})
        self.unsound(("main", 0), {"main": (0, [("call", "two", "c"), END]), "one": back})
        self.unsound(("main", 1), {"main": (0, [("read", 0), ("back",), END])})
        self.unsound(("one", 1), {"main": (0, [call, END]), "one": (0, [("read", 0), END, ("back",)])})
        self.unsound(("main", 1), {"main": (0, [call, call, END]), "one": back})
        self.unsound(("main", 1), {"main": (0, [call, ("call", "two", "c"), END]), "one": back, "two": back})
        mark = ("mark", "m", [("s",)])
        self.unsound(("main", 1), {"main": (0, [mark, ("mark", "m", [("t",)]), END])})
        self.unsound(("one", 0), {"main": (0, [mark, END]), "one": (0, [mark, ("back",)])})

    def test_the_same_label_in_two_units_is_sound(self):
        units = {"main": (0, [("call", "one", "c"), END]), "one": (0, [("call", "two", "c"), ("back",)]), "two": (0, [("back",)])}
        self.assertEqual(Rows(5, 1, units).units(), units)

    def test_the_first_row_whatever_its_kind(self):
        units = {
            "zeta": (0, [("back",), ("go", 7), END]),
            "main": (0, [("read", 0), ("call", "none", "c"), ("back",), ("go", 9), END]),
            "late": (0, [("call", "zeta", "c"), ("back",)]),
            "alpha": (0, [("back",), END]),
        }
        self.unsound(("alpha", 1), units)
        units["alpha"] = (0, [("back",)])
        self.unsound(("main", 1), units)
        units["main"] = (0, [("read", 0), ("back",), ("go", 9), END])
        self.unsound(("main", 1), units)
        units["main"] = (0, [END])
        self.unsound(("zeta", 1), units)

    def test_marks_and_labels_ahead_are_those_of_earlier_units(self):
        mark, back = ("mark", "m", [("s",)]), ("back",)
        self.unsound(("main", 0), {"main": (0, [mark, END]), "alpha": (0, [mark, back])})
        self.unsound(("zeta", 1), {"main": (0, [END]), "zeta": (0, [("mark", "n", [("s",)]), mark, back]), "alpha": (0, [mark, back])})

    def test_rings_of_calls(self):
        back = ("back",)
        self.unsound(("main", 0), {"main": (0, [("call", "main", "c"), END])})
        self.unsound(("one", 1), {"main": (0, [("call", "one", "c"), END]), "one": (0, [("read", 0), ("call", "two", "d"), back]),
                                  "two": (0, [("call", "one", "e"), back])})
        self.unsound(("b", 1), {"main": (0, [END]), "a": (0, [("call", "b", "c"), back]), "b": (0, [("call", "d", "x"), ("call", "b", "c"), back]),
                                "d": (0, [back])})
        # A row that is bent comes first, wherever it stands; a ring of rows comes last.
        self.unsound(("two", 1), {"main": (0, [("go", 0), END]), "one": (0, [("call", "one", "c"), back]), "two": (0, [back, ("go", 2)])})
        self.unsound(("one", 0), {"main": (0, [("go", 0), END]), "one": (0, [("call", "one", "c"), back])})

    def test_rings_of_rows(self):
        back = ("back",)
        self.unsound(("main", 0), {"main": (0, [("go", 0), END])})
        self.unsound(("main", 1), {"main": (0, [("read", 0), ("print", 0), ("go", 1), END])})
        self.unsound(("main", 2), {"main": (0, [("go", 4), END, ("set", 0, 1), ("go", 5), ("go", 2), ("go", 2), END])})
        units = {"main": (0, [("call", "one", "c"), ("go", 0), END]), "one": (0, [("read", 0), back])}
        self.unsound(("main", 0), units)
        self.unsound(("alpha", 1), {"main": (0, [("go", 0), END]), "alpha": (0, [("read", 0), ("go", 1), back])})
        for asking in [("read", 0), ("pick", [1, 1]), ("pick", [2, 1])]:
            Rows(5, 1, {"main": (0, [asking, ("go", 0), END])})

    def test_rows_that_no_run_comes_to_count(self):
        self.unsound(("main", 1), {"main": (0, [END, ("go", 1), END])})
        self.unsound(("main", 1), {"main": (0, [END, ("print", 0)])})

    def test_behind_all_other_errors(self):
        bent = {"main": (0, [("go", 5), ("set", 0, 5), END])}
        self.refused(InvalidRows, bent, Rows, 5, 1, bent)
        self.refused(InvalidCount, 0, Rows, 5, 0, {"main": (0, [("go", 5)])})


def ring_of_units():
    """Calls, picks and rings that ask; the unit `ask` is called twice, once from within another one."""
    ask = (1, [("mark", "in", [("q",)]), ("read", 0), ("keep", 0, 0), ("store", 0, 0), ("back",)])
    mid = (2, [("keep", 1, 1), ("call", "ask", "d"), ("mark", "mid", [("s",), ("t", "u")]), ("take", 0, 1), ("print", 0), ("back",)])
    main = (1, [("call", "ask", "c"), ("copy", 1, 0), ("pick", [5, 3, 4]), ("call", "mid", "e"), ("print", 1), ("fetch", 0, 0), ("mark", "m", [("z",)]),
                ("print", 0), ("pick", [0, 9]), END])
    return (5, 2, {"main": main, "ask": ask, "mid": mid, "never": (1, [("mark", "no", [("s",)]), ("back",)])})


def sound_rows(seeds, prime=None):
    """The parts and the rows of those seeds that make sound ones."""
    for seed in seeds:
        parts = ChanceRows(seed, prime).parts()
        try:
            yield parts, Rows(*parts)
        except Unsound:
            continue


class Point27(Checks):
    def test_calls_picks_and_rings(self):
        rows = Rows(*ring_of_units())
        n, c = [("number", k) for k in range(5)], [("choice", k) for k in range(3)]
        self.assertEqual(run_rows(rows, []), ([[]], ("number",)))
        self.assertEqual(stands(rows, []), ((("c",), "ask", 1), {"#0": 0, "#1": 0, "@0.0": 0, "@1.0": 0}))
        self.assertEqual(run_rows(rows, [n[3]]), ([[], []], ("choice", 3)))
        self.assertEqual(stands(rows, [n[3]]), (((), "main", 2), {"#0": 3, "#1": 3, "@0.0": 3}))
        self.assertEqual(run_rows(rows, [n[3], c[1]]), ([[], [], []], ("number",)))
        self.assertEqual(stands(rows, [n[3], c[1]]), ((("e", "d"), "ask", 1), {"#0": 3, "#1": 3, "@0.0": 3, "@1.0": 0, "@1.1": 3, "@2.0": 0}))
        self.assertEqual(run_rows(rows, [n[3], c[1], n[2]]), ([[], [], [], [3, 3, 2]], ("choice", 2)))
        self.assertEqual(run_rows(rows, [n[3], c[0], c[0], n[1], c[2], c[1]]), ([[], [], [3], [], [], [1, 1], []], ("end",)))
        self.assertEqual(stands(rows, [n[3], c[0], c[1]]), (((), "main", 9), {"#0": 3, "#1": 3, "@0.0": 3}))

    def test_a_frame_begins_with_noughts_each_time(self):
        unit = (1, [("take", 1, 0), ("print", 1), ("keep", 0, 0), ("back",)])
        main = (0, [("set", 0, 3), ("call", "one", "c"), ("call", "one", "d"), ("read", 0), ("go", 1)])
        rows = Rows(5, 2, {"main": main, "one": unit})
        self.assertEqual(run_rows(rows, [("number", 4)])[0], [[0, 0], [0, 0]])

    def test_what_each_row_does(self):
        rows = [("more", 0, 4), ("set", 1, 3), ("times", 1, 4), ("add", 0, 1), ("add", 1, 1), ("keep", 0, 0), ("store", 1, 1), ("copy", 0, 1)]
        told = [("print", 0), ("print", 1), ("take", 1, 0), ("print", 1), ("fetch", 1, 1), ("print", 1), END]
        self.assertEqual(run_rows(Rows(5, 2, {"main": (2, rows + told)}), []), ([[4, 4, 1, 4]], ("end",)))

    def test_the_greatest_prime(self):
        rows = Rows(65537, 1, {"main": (0, [("read", 0), ("times", 0, 65536), ("print", 0), ("more", 0, 65536), ("add", 0, 0), ("print", 0), END])})
        self.assertEqual(run_rows(rows, [("number", 65536)]), ([[], [1, 0]], ("end",)))
        self.assertEqual(run_rows(rows, [("number", 2)]), ([[], [65535, 65531]], ("end",)))

    def test_the_first_letter_that_does_not_fit(self):
        rows = Rows(*ring_of_units())
        good = [("number", 4), ("choice", 2), ("choice", 1)]
        self.assertEqual(run_rows(rows, good)[1], ("end",))
        wrong = [None, 0, "number", ("number",), ("number", 0, 0), ["number", 0], ("number", -1), ("number", True), ("number", "0"), (0, 0),
                 ("choice", None), ("choice", False), {}, [], ()]
        at = [wrong + [("choice", 0), ("number", 5)], wrong + [("number", 0), ("choice", 3)], wrong + [("number", 1), ("choice", 2)]]
        for function in [run_rows, stands, passed_marks]:
            for position in range(3):
                for letter in at[position]:
                    self.refused(InvalidInputs, position, function, rows, good[:position] + [letter, None])
            self.refused(InvalidInputs, 3, function, rows, good + [("number", 0)])
            self.refused_all(InvalidInputs, [None, (), ("number", 0), {}, "", 0, True, Rows(*ring_of_units())], function, rows, [], at=1)

    def test_no_rows(self):
        calls = [(run_rows, [[]]), (stands, [[]]), (passed_marks, [[]]), (paths_of, []), (marks_of, [])]
        for function, more in calls:
            self.refused_all(InvalidRows, odd_objects() + [ring_of_units()], function, None, *more, at=0)

    def test_row_by_row(self):
        tried = 0
        for parts, rows in sound_rows(range(500)):
            chance, inputs = random.Random(tried), []
            while len(inputs) < 12:
                told = told_of_rows(parts, inputs)
                self.assertEqual(run_rows(rows, inputs), (told.beats, told.asked))
                self.assertEqual(repr(stands(rows, inputs)), repr((told.place, told.state)))
                self.assertEqual(repr(passed_marks(rows, inputs)), repr(told.passed))
                letters = letters_for(told.asked, min(parts[0], 9))
                if not letters:
                    break
                inputs = inputs + [chance.choice(letters)]
                tried += 1
        self.assertGreater(tried, 1000)

    def test_many_letters_and_rows(self):
        main = [("read", 0)] + [("more", 0, 1)] * 297 + [("print", 0), ("go", 0)]
        beats, asked = run_rows(Rows(65537, 4, {"main": (8, main)}), [("number", 5)] * 240)
        self.assertEqual((beats, asked), ([[]] + [[302]] * 240, ("number",)))

    def test_results_may_be_changed(self):
        rows = Rows(*ring_of_units())
        for inputs in [[], [("number", 1)], [("number", 1), ("choice", 1), ("number", 2)]]:
            for function in [run_rows, stands, passed_marks]:
                self.unhurt(function, rows, inputs)
                self.same_by_names(function, rows=rows, inputs=inputs)
        for function in [paths_of, marks_of]:
            self.unhurt(function, rows)
            self.same_by_names(function, rows=rows)


class Point28(Checks):
    def test_paths(self):
        found = paths_of(Rows(*ring_of_units()))
        main = ["#0", "#1", "@0.0"]
        self.assertEqual(list(found.items()), [
            ((), main), (("c",), main + ["@1.0"]), (("e",), main + ["@1.0", "@1.1"]), (("e", "d"), main + ["@1.0", "@1.1", "@2.0"]),
        ])

    def test_paths_by_calls_that_no_run_goes_through(self):
        rows = Rows(5, 1, {"main": (0, [END, ("call", "one", "c"), END]), "one": (2, [("mark", "m", [("s",)]), ("back",)])})
        self.assertEqual(paths_of(rows), {(): ["#0"], ("c",): ["#0", "@1.0", "@1.1"]})
        self.assertEqual(marks_of(rows), [(("m", ("c",)), [("c", "s")])])

    def test_paths_in_order(self):
        unit = (0, [("back",)])
        rows = Rows(5, 1, {"main": (0, [("call", "one", "z"), ("call", "one", "b"), END]), "one": (0, [("call", "two", "y"), ("call", "two", "a"), ("back",)]), "two": unit})
        self.assertEqual(list(paths_of(rows)), [(), ("b",), ("b", "a"), ("b", "y"), ("z",), ("z", "a"), ("z", "y")])

    def test_marks(self):
        self.assertEqual(marks_of(Rows(*ring_of_units())), [
            (("in", ("c",)), [("c", "q")]), (("in", ("e", "d")), [("e", "d", "q")]), (("m", ()), [("z",)]),
            (("mid", ("e",)), [("e", "s"), ("e", "t", "u")]),
        ])
        self.assertEqual(marks_of(Rows(5, 1, {"main": (0, [END])})), [])

    def test_passed_marks(self):
        rows = Rows(*ring_of_units())
        inputs = [("number", 3), ("choice", 1), ("number", 2)]
        self.assertEqual(passed_marks(rows, inputs[:2]), [(("in", ("e", "d")), {"#0": 3, "#1": 3, "@0.0": 3, "@1.0": 0, "@1.1": 3, "@2.0": 0}, 0)])
        found = passed_marks(rows, inputs)
        self.assertEqual(found, [
            (("mid", ("e",)), {"#0": 2, "#1": 3, "@0.0": 2, "@1.0": 0, "@1.1": 3}, 0), (("m", ()), {"#0": 2, "#1": 3, "@0.0": 2}, 2),
        ])
        self.assertEqual([list(state) for _, state, _ in found], [["#0", "#1", "@0.0", "@1.0", "@1.1"], ["#0", "#1", "@0.0"]])


class Point29(Checks):
    def parts(self):
        units = ring_of_units()[2]
        return [{"mid": units["mid"]}, {"main": units["main"], "never": units["never"]}, {}, {"ask": units["ask"]}]

    def test_linked_in_any_order(self):
        whole = Rows(*ring_of_units())
        for parts in itertools.permutations(self.parts()):
            handed = list(parts)
            found = linked(5, 2, handed)
            self.assertEqual((found, handed, list(found.units())), (whole, list(parts), ["ask", "main", "mid", "never"]))
        self.assertEqual(linked(parts=self.parts(), boxes=2, prime=5), whole)

    def test_handed_parts_may_be_changed(self):
        parts = self.parts()
        rows = linked(5, 2, parts)
        spoil(parts)
        self.assertEqual(rows, Rows(*ring_of_units()))

    def test_wrong_parts(self):
        good = {"main": (0, [END])}
        wrong = [[], [good, good], [good, {"main": (1, [END])}], (good,), good, [good, None], [good, []], [{}], [{"one": (0, [("back",)])}],
                 [good, {"One": (0, [("back",)])}], [good, {"one": (9, [("back",)])}], [good, {"one": (0, [])}], [good, {1: 2}], [[good]],
                 [{"main": (1, [END])}, {"one": (0, [("fetch", 0, 1), ("back",)])}], [good, {"one": (0, [("set", 0, 5), ("back",)])}]]
        for parts in wrong + odd_objects():
            self.refused(InvalidUnits, parts, linked, 5, 1, parts)
        self.refused_all(InvalidPrime, BAD_PRIMES, linked, 5, 2, [], at=0)
        self.refused_all(InvalidCount, BAD_BOXES, linked, 5, 2, [], at=1)
        # A cell of main fits by the main of another part.
        self.assertEqual(linked(5, 1, [{"one": (0, [("fetch", 0, 1), ("back",)])}, {"main": (2, [END])}]).units()["main"], (2, [END]))

    def test_unsound_ones(self):
        self.refused(Unsound, ("main", 0), linked, 5, 2, [{"main": (0, [("call", "one", "c"), END])}])
        bent = [{"main": (0, [("call", "one", "c"), END])}, {"two": (0, [None])}]
        self.refused(InvalidUnits, bent, linked, 5, 2, bent)

    def test_wants(self):
        call, back = ("call", "two", "c"), ("back",)
        self.assertEqual(wants(5, 2, {}), [])
        self.assertEqual(wants(5, 2, {"main": (0, [END])}), [])
        self.assertEqual(wants(5, 2, {"one": (0, [call, ("call", "two", "d"), ("call", "alpha", "e"), ("call", "one", "f"), back])}), ["alpha", "two"])
        self.assertEqual(wants(5, 2, {"main": (0, [call, ("call", "three", "d"), END]), "two": (0, [("call", "main", "c"), back])}), ["three"])
        self.assertEqual(wants(5, 2, {"two": (0, [("call", "main", "c"), back])}), ["main"])
        for part, named in zip(self.parts(), [["ask"], ["ask", "mid"], [], []]):
            self.assertEqual(wants(5, 2, part), named)
            self.unhurt(wants, 5, 2, part)
        self.same_by_names(wants, prime=5, boxes=2, units=self.parts()[1])

    def test_main_that_is_not_there_has_eight_cells(self):
        self.assertEqual(wants(5, 1, {"one": (0, [("fetch", 0, 7), ("back",)])}), [])
        bad = {"one": (0, [("fetch", 0, 8), ("back",)])}
        self.refused(InvalidUnits, bad, wants, 5, 1, bad)
        bad = {"main": (7, [END]), "one": (0, [("fetch", 0, 7), ("back",)])}
        self.refused(InvalidUnits, bad, wants, 5, 1, bad)

    def test_wants_of_what_is_none(self):
        for units in [thing for thing in odd_objects() if thing != {}] + [{"main": None}, {"one": (0, [])}, {"One": (0, [("back",)])}]:
            self.refused(InvalidUnits, units, wants, 5, 2, units)
        self.refused_all(InvalidPrime, BAD_PRIMES, wants, 5, 2, {}, at=0)
        self.refused_all(InvalidCount, BAD_BOXES, wants, 5, 2, {}, at=1)
