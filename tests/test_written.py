"""Points 120 to 124: texts of sums, paths, marks, rows, rules of exchange, dumps and lines, there and back."""

import random
import unittest

from tests.checks import Checks, bent_ones, shown
from tests.machines import ChanceRows
from tests.odd import odd_objects
from tests.stock import chance_stock
from tests.test_books import BAD, GOOD, M, S, SEEN, double, plain, right_readings
from tests.test_moving import joined
from tests.test_pieces import orderly, out_of_order_bench
from tests.woven import woven_stock
from truestops.benches import Bench
from truestops.books import Book, greatest_book
from truestops.errors import (
    InvalidBench,
    InvalidBook,
    InvalidDump,
    InvalidRows,
    InvalidRule,
    InvalidSum,
    InvalidText,
    OutOfOrder,
    Unsound,
    UnknownMark,
    UnknownStop,
)
from truestops.exchange import exchange_rule
from truestops.making import made
from truestops.programs import Program
from truestops.rows import Rows
from truestops.texts import (
    dump_text,
    exchange_text,
    lines_text,
    mark_text,
    path_text,
    read_dump,
    read_exchange,
    read_lines,
    read_mark,
    read_path,
    read_rows,
    read_sum,
    rows_text,
    sum_text,
)

READERS = [read_sum, read_path, read_mark, read_rows, read_exchange, read_dump]
LONE = Rows(5, 1, {"main": (0, [("read", 0), ("mark", "m", [("s",)]), ("print", 0), ("end",)])})


class WrittenAndRead(Checks):
    def there_and_back(self, write, read, thing, text):
        self.assertEqual(write(thing), text)
        self.assertEqual(shown(read(text)), shown(self.ordered(thing)) if not isinstance(thing, Rows) else shown(thing))

    def ordered(self, thing):
        if isinstance(thing, dict):
            return {key: self.ordered(thing[key]) for key in sorted(thing)}
        return tuple(self.ordered(part) for part in thing) if isinstance(thing, tuple) else thing

    def bent_texts(self, text):
        signs = ["", " ", "0", "1", "-", ".", "a", "A", ";", "#", "@", "=", ":", "\n", "+"]
        for at in range(len(text) + 1):
            for sign in signs:
                yield text[:at] + sign + text[at:]
                yield text[:at] + sign + text[at + 1:]

    def all_bent(self, write, read, text):
        """Whatever is read is written just so; all else is refused."""
        for bent in self.bent_texts(text):
            try:
                thing = read(bent)
            except InvalidText as error:
                self.assertEqual(error.value, bent)
            else:
                self.assertEqual(write(thing), bent)


class NoTexts(Checks):
    def test_objects_that_are_no_texts(self):
        for read in READERS:
            self.refused_all(InvalidText, [thing for thing in odd_objects() if thing not in ("x",)] + [b"0", ["0"], "0\n", "\n0", " 0", "0 ", "(", "x" * 400], read, None, at=0)

    def test_names(self):
        self.same_by_names(sum_text, wanted={"x": 1})
        self.same_by_names(path_text, path=("c",))
        self.same_by_names(mark_text, mark=M)
        self.same_by_names(rows_text, rows=LONE)
        self.same_by_names(exchange_text, rule={"#0": {}})
        self.same_by_names(dump_text, dump=(M, {"#0": 1}))
        self.same_by_names(lines_text, book=Book(plain(), [SEEN]))
        for read, text in [(read_sum, "1 x"), (read_path, "c"), (read_mark, "m in -"), (read_exchange, "#0 = 0"), (read_dump, "m in -: #0 = 1")]:
            self.same_by_names(read, text=text)
            self.unhurt(read, text)
        self.assertEqual(read_rows(text=rows_text(LONE)), LONE)
        self.assertEqual(read_lines(text="", bench=plain()), Book(plain(), []))


class Point120(WrittenAndRead):
    SUMS = [
        ({}, "0"), ({"": 1}, "1"), ({"x": 1}, "1 x"), ({"x": 0}, "0 x"), ({"y": 4, "x": 0}, "0 x + 4 y"), ({"": 3, "c.x": 1, "#0": 2}, "2 #0 + 1 c.x + 3"),
        ({"@0.0": 12, "#10": 10 ** 29, "@10.2": 1}, "100000000000000000000000000000 #10 + 12 @0.0 + 1 @10.2"), ({"a.b.c": 5, "a": 1, "ab": 2}, "1 a + 5 a.b.c + 2 ab"), ({"#2": 1, "#10": 2}, "2 #10 + 1 #2"),
    ]

    def test_there_and_back(self):
        for wanted, text in self.SUMS:
            self.there_and_back(sum_text, read_sum, wanted, text)
            self.there_and_back(sum_text, read_sum, dict(reversed(wanted.items())), text)

    def test_bent_texts(self):
        for _, text in self.SUMS:
            self.all_bent(sum_text, read_sum, text)
        bad = ["", "00", "01", "x", "1x", "1 x +", "1 x + ", " + 1 x", "1 x+1 y", "1 x + 1 x", "1 y + 1 x", "3 + 1 x", "1 x + 0", "0 + 1 x", "1 x + 3 + 4", "1 X", "1 x y", "-1 x", "1 #", "1 #00", "1 @0", "1 @0.", "1 @00.0", "1 @0.00", "1 @0.0.0", "1 #0.0", "1 x.", "1 .x", "1 x..y", "1 ninesigns", "1  x", "+1 x", "1 x - 1 y", "1 ", "1_0 x", "0 "]
        self.refused_all(InvalidText, bad, read_sum, None, at=0)

    def test_sums_that_are_none(self):
        bad = [thing for thing in odd_objects() if thing not in ({}, {"": 1}, {"x": 1})] + [{"": 0}, {"x": -1}, {"x": True}, {"x": None}, {"X": 1}, {"x.": 1}, {"#": 1}, {"#00": 1}, {"@0": 1}, {"@0.x": 1}, {"ninesigns": 1}, {" ": 1}, {"=x": 1}, [("x", 1)], {("x",): 1}]
        self.refused_all(InvalidSum, bad, sum_text, None, at=0)


class Point121(WrittenAndRead):
    def test_paths_and_marks(self):
        for path, text in [((), "-"), (("c",), "c"), (("c", "u"), "c.u"), (("abcdefgh", "z", "y"), "abcdefgh.z.y")]:
            self.there_and_back(path_text, read_path, path, text)
            self.there_and_back(mark_text, read_mark, ("m", path), f"m in {text}")
            self.all_bent(path_text, read_path, text)
            self.all_bent(mark_text, read_mark, f"m in {text}")
        self.there_and_back(mark_text, read_mark, ("in", ("in",)), "in in in")

    def test_texts_that_are_none(self):
        self.refused_all(InvalidText, ["", ".", "c.", ".c", "c..u", "-.c", "--", "C", "c u", "ninesigns", "c.1", "c\n", " -"], read_path, None, at=0)
        self.refused_all(InvalidText, ["", "m", "m in", "m in ", " in -", "m  in -", "m in  -", "m in c d", "M in -", "m in -\n", "m in c in d", "in -", "m at -"], read_mark, None, at=0)

    def test_what_is_none(self):
        bad = [thing for thing in odd_objects() if not (type(thing) is tuple and all(type(part) is str for part in thing))] + [["c"], ("C",), ("ninesigns",), ("",), ("c", 1), ("c", ("u",)), "c"]
        self.refused_all(UnknownStop, bad, path_text, None, at=0)
        bad = [thing for thing in odd_objects() if thing not in (("first", []),)] + [("first", []), ("m",), ("m", (), ()), ["m", ()], ("M", ()), ("m", ["c"]), ("m", ("C",)), ("m", "c"), ("", ()), (1, ()), ("m", None)]
        self.refused_all(UnknownMark, bad, mark_text, None, at=0)


class Point122(WrittenAndRead):
    def every_row(self):
        rows = [
            ("set", 0, 4), ("copy", 1, 0), ("times", 2, 3), ("more", 0, 1), ("add", 0, 0), ("take", 1, 0), ("keep", 1, 2), ("fetch", 0, 1), ("store", 0, 2), ("read", 2), ("print", 0), ("pick", [12, 13, 12, 16]),
            ("call", "aid", "c"), ("call", "aid", "d"), ("mark", "m", [("s",), ("t", "u")]), ("go", 16), ("end",),
        ]
        return Rows(5, 3, {"main": (2, rows), "aid": (1, [("mark", "n", [("x",)]), ("back",)])})

    def test_line_by_line(self):
        self.assertEqual(rows_text(self.every_row()).split("\n"), [
            "prime 5", "boxes 3", "unit aid 1", "  mark n x", "  back", "unit main 2", "  set 0 4", "  copy 1 0", "  times 2 3", "  more 0 1", "  add 0 0", "  take 1 0", "  keep 1 2", "  fetch 0 1", "  store 0 2", "  read 2", "  print 0", "  pick 12 13 12 16",
            "  call aid c", "  call aid d", "  mark m s t.u", "  go 16", "  end",
        ])
        self.assertEqual(read_rows(rows_text(self.every_row())), self.every_row())
        self.assertEqual(rows_text(LONE), "prime 5\nboxes 1\nunit main 0\n  read 0\n  mark m s\n  print 0\n  end")
        self.assertIs(type(read_rows(rows_text(LONE))), Rows)

    def test_by_chance(self):
        many = 0
        for prime in [2, 3, 5, 65537]:
            for seed in range(60):
                try:
                    rows = Rows(*ChanceRows(seed, prime).parts())
                except Unsound:
                    continue
                many += 1
                self.assertEqual(read_rows(rows_text(rows)), rows)
            for stock in woven_stock(range(20), prime, 0, 1):
                told = made(stock.bench.program())
                self.assertEqual(read_rows(rows_text(told)), told)
        self.assertGreater(many, 60)

    def test_bent_texts(self):
        self.all_bent(rows_text, read_rows, rows_text(LONE))
        lines = rows_text(self.every_row()).split("\n")
        for at in range(len(lines)):
            for bent in [lines[:at] + lines[at + 1:], lines[:at] + lines[at:at + 1] + lines[at:], lines[:at] + [lines[at] + " 1"] + lines[at + 1:], lines[:at] + [lines[at].rpartition(" ")[0]] + lines[at + 1:], lines[:at] + [""] + lines[at:], lines[:at] + [" " + lines[at]] + lines[at + 1:], lines[:at] + [lines[at].replace(" 1", " 01")] + lines[at + 1:], lines[:at] + [lines[at].replace(" ", "  ", 3)] + lines[at + 1:]]:
                text = "\n".join(bent)
                try:
                    self.assertEqual(rows_text(read_rows(text)), text)
                except InvalidText as error:
                    self.assertEqual(error.value, text)

    def test_texts_that_are_none(self):
        head, body = "prime 5\nboxes 1\n", "unit main 0\n  read 0\n  print 0\n  end"
        bad = [
            "", "prime 5", "prime 5\nboxes 1", head, head + "\n" + body, head + body + "\n", "prime 4\nboxes 1\n" + body, "prime 05\nboxes 1\n" + body, "prime 5\nboxes 0\n" + body, "prime 5\nboxes 5\n" + body, "boxes 1\nprime 5\n" + body, "prime 65539\nboxes 1\n" + body,
            head + "unit aid 0\n  back", head + "unit main 9\n  end", head + "unit main 0", head + body + "\nunit aid 0", head + body + "\nunit aid 0\n  back", head + "unit main 0\n  end\nunit main 0\n  end", head + "unit main 0\n  read 1\n  end", head + "unit main 0\n read 0\n  end",
            head + "  read 0\n" + body, head + "unit main 0\n  end\n  stop", head + "unit main 0\n  mark m\n  end", head + "unit main 0\n  mark m -\n  end", head + "unit main 0\n  mark m t s\n  end", head + "unit main 0\n  pick 1\n  end", head + "unit main  0\n  end", head + "unit Main 0\n  end",
        ]
        # Rows that are not sound.
        bad += [head + "unit main 0\n  read 0", head + "unit main 0\n  go 1", head + "unit main 0\n  go 0\n  end", head + "unit main 0\n  call aid c\n  end", head + "unit main 0\n  back\n  end", head + "unit main 0\n  mark m s\n  mark m s\n  end"]
        self.refused_all(InvalidText, bad, read_rows, None, at=0)
        self.refused_all(InvalidRows, odd_objects() + [plain()], rows_text, None, at=0)


class Point123(WrittenAndRead):
    RULES = [({}, "-"), ({"#0": {}}, "#0 = 0"), ({"#1": {}, "#0": {"": 2, "#0": 1}}, "#0 = 1 #0 + 2; #1 = 0"), ({"@0.0": {"@1.12": 3}, "#10": {"": 1}, "#2": {"#2": 1}}, "#10 = 1; #2 = 1 #2; @0.0 = 3 @1.12")]
    DUMPS = [((M, {"#0": 0, "@0.0": 3}), "m in -: #0 = 0; @0.0 = 3"), ((M, {}), "m in -: -"), ((("n", ("c", "d")), {"#1": 10 ** 29, "#0": 1}), "n in c.d: #0 = 1; #1 = 100000000000000000000000000000")]

    def test_there_and_back(self):
        for rule, text in self.RULES:
            self.there_and_back(exchange_text, read_exchange, rule, text)
            self.all_bent(exchange_text, read_exchange, text)
        for dump, text in self.DUMPS:
            self.there_and_back(dump_text, read_dump, dump, text)
            self.all_bent(dump_text, read_dump, text)

    def test_of_real_ones(self):
        for stock in woven_stock(range(30), 65537, 2, 1):
            for mark, stop in stock.bench.passings.true_seats():
                rule = exchange_rule((stock.bench, mark, stop), (stock.bench, mark, stop), None)
                if rule is not None:
                    self.assertEqual(read_exchange(exchange_text(rule)), rule)

    def test_texts_that_are_none(self):
        bad = ["", "#0", "#0 =", "#0 = ", "#0=0", "#0 = 0;", "#0 = 0; ", "#0 = 0;#1 = 0", "#1 = 0; #0 = 0", "#0 = 0; #0 = 0", "x = 0", "#0 = 1 x", "#0 = 1 #1 + 1 #0", "#00 = 0", "-; #0 = 0", "#0 = -", "--", "#0 = 00", "#0 = 0 = 0"]
        self.refused_all(InvalidText, bad, read_exchange, None, at=0)
        bad = ["", "m in -", "m in -:", "m in -: ", "m in -:-", "m in -: #0", "m in -: #0 = 01", "m in -: #0 = 1 #0", "m in -: #1 = 0; #0 = 0", "m in -: #0 = 0; #0 = 0", "m in -: x = 0", "-: -", "m: -", "m in -: -: -", "m in -: #0 = ", "m in -: #0 = -1"]
        self.refused_all(InvalidText, bad, read_dump, None, at=0)

    def test_sums_of_rules_have_no_factor_0(self):
        bad = ["#0 = 0 #1", "#0 = 0 #0", "#0 = 0 @0.1 + 3", "#0 = 1 #0 + 0 #1", "#0 = 0 #0 + 1 #1", "#0 = 0; #1 = 0 #0", "#0 = 0 #0; #1 = 0", "@0.1 = 0 @0.1", "#0 = 1 #0 + 0", "#0 = 0 + 1"]
        self.refused_all(InvalidText, bad, read_exchange, None, at=0)
        bad = [{"#0": {"#1": 0}}, {"#0": {"#0": 1, "#1": 0}}, {"#0": {"#0": 0, "#1": 1}}, {"#0": {}, "#1": {"@0.1": 0, "": 3}}, {"#1": {"#0": 0}, "#0": {}}, {"@0.1": {"@0.1": 0}}, {"#0": {"": 0}}, {"#0": {"#0": 1, "": 0}}]
        self.refused_all(InvalidRule, bad, exchange_text, None, at=0)

    def test_noughts_stay_elsewhere(self):
        self.there_and_back(exchange_text, read_exchange, {"#0": {}, "@0.1": {}}, "#0 = 0; @0.1 = 0")
        self.there_and_back(exchange_text, read_exchange, {"#0": {"#0": 1}}, "#0 = 1 #0")
        self.there_and_back(sum_text, read_sum, {"#1": 0}, "0 #1")
        self.there_and_back(dump_text, read_dump, (M, {"#0": 0, "#1": 0}), "m in -: #0 = 0; #1 = 0")

    def test_what_is_none(self):
        bad = [thing for thing in odd_objects() if thing != {}] + [{"x": {}}, {"#0": {"x": 1}}, {"#0": {"#0": -1}}, {"#0": {"#0": True}}, {"#0": {"": 0}}, {"#0": 1}, {"#0": [("#0", 1)]}, {"#00": {}}, {"@0": {}}, {"": {}}, {1: {}}]
        self.refused_all(InvalidRule, bad, exchange_text, None, at=0)
        bad = odd_objects() + [(M, {"x": 0}), (M, {"#0": -1}), (M, {"#0": True}), (M, {"#0": {}}), (M, [("#0", 1)]), (M,), (M, {}, 1), [M, {}], ("m", {}), (("M", ()), {}), (("m", []), {}), (M, {"": 1}), (M, {"#01": 1})]
        self.refused_all(InvalidDump, bad, dump_text, None, at=0)


class Point124(WrittenAndRead):
    def test_line_by_line(self):
        bench = double()
        lines = [("read", M, S, {"y": 1, "x": 2, "": 3}, {"#0": 3, "": 4}), ("change", M, S, {"y": 1, "x": 1}, {}), ("read", M, S, {}, {}), ("change", M, S, {"x": 4}, {"#0": 2})]
        text = "read m in - at s: 2 x + 1 y + 3 = 3 #0 + 4\nchange m in - at s: 1 x + 1 y by 0\nread m in - at s: 0 = 0\nchange m in - at s: 4 x by 2 #0"
        self.assertEqual(lines_text(Book(bench, lines)), text)
        self.assertEqual(read_lines(bench, text), Book(bench, lines))
        self.assertIs(type(read_lines(bench, text)), Book)
        self.assertEqual((lines_text(Book(bench, [])), read_lines(bench, "")), ("", Book(bench, [])))
        self.assertEqual(lines_text(Book(joined(2), [("change", M, ("r",), {"y": 1}, {"#1": 1})])), "change m in - at r: 1 y by 1 #1")

    def test_by_chance(self):
        for prime in [2, 3, 5, 65537]:
            chance = random.Random(prime)
            for stock in list(orderly(chance_stock(range(30), prime, 0, 1))) + list(woven_stock(range(30), prime, 0, 1)):
                book = greatest_book(stock.bench, right_readings(chance, stock.bench, 2))
                self.assertEqual(read_lines(stock.bench, lines_text(book)), book)

    def test_names_that_are_words_of_lines(self):
        call = ("to", ["by"], [], ([], [("read", "in", "by"), ("pass", "by"), ("print", "read", {"by": 1})]))
        program = Program(5, ["at"], [call], ([], [("call", "at", "to", [{}], [])]))
        units = {"main": (0, [("call", "in", "at"), ("end",)]), "in": (0, [("read", 0), ("mark", "in", [("by",)]), ("print", 0), ("back",)])}
        bench = Bench(program, Rows(5, 1, units))
        mark, stop = ("in", ("at",)), ("at", "by")
        book = Book(bench, [("change", mark, stop, {"at.by": 1, "at": 2}, {"#0": 1}), ("read", mark, stop, {"at.by": 1, "": 1}, {"#0": 1, "": 1}), ("change", mark, stop, {"at": 1}, {})])
        text = "change in in at at at.by: 2 at + 1 at.by by 1 #0\nread in in at at at.by: 1 at.by + 1 = 1 #0 + 1\nchange in in at at at.by: 1 at by 0"
        self.assertEqual((lines_text(book), read_lines(bench, text)), (text, book))
        plain_one = Program(5, ["by", "in"], [], ([], [("read", "by", "by"), ("print", "s", {"by": 1, "in": 1})]))
        bench = Bench(plain_one, Rows(5, 1, {"main": (0, [("read", 0), ("mark", "in", [("s",)]), ("print", 0), ("end",)])}))
        book = Book(bench, [("change", ("in", ()), ("s",), {"by": 1}, {}), ("change", ("in", ()), ("s",), {"by": 1, "in": 1}, {"#0": 2}), ("read", ("in", ()), ("s",), {"by": 1}, {"#0": 1})])
        self.assertEqual(read_lines(bench, lines_text(book)), book)
        for text in ["change in in - at s: 1 by 0", "change in in - at s: 1 by by", "change in in - at s: by by 0", "change in in - at s: 1 by by by 0", "change in in - at s: 1 by by 0 by 0"]:
            self.refused(InvalidText, text, read_lines, bench, text)

    def test_bent_texts(self):
        bench = plain()
        text = lines_text(Book(bench, [SEEN, GOOD]))
        for bent in self.bent_texts(text):
            try:
                book = read_lines(bench, bent)
            except InvalidText as error:
                self.assertEqual(error.value, bent)
            else:
                self.assertEqual(lines_text(book), bent)

    def test_texts_that_are_none(self):
        bench = plain()
        bad = odd_objects() + [
            "\n", "read m in - at s: 1 x = 1 #0\n", "\nread m in - at s: 1 x = 1 #0", "read m in - at s: 1 x by 1 #0", "change m in - at s: 1 x = 1 #0", "read m at s: 1 x = 1 #0", "read m in -: 1 x = 1 #0", "read m in - at s 1 x = 1 #0", "read m in - at s: 1 x", "m in - at s: 1 x = 1 #0",
            "read m in - at s: 1 x = 1 #0 = 1 #0", "read m in - at s: 01 x = 1 #0", "read m in - at s:  1 x = 1 #0", "read m in - at -: 1 x = 1 #0",
            # Lines of the right form that are none of the bench.
            "read n in - at s: 1 x = 1 #0", "read m in c at s: 1 x = 1 #0", "read m in - at b: 1 x = 1 #0", "read m in - at s: 1 y = 1 #0", "read m in - at s: 1 x = 1 #1", "read m in - at s: 5 x = 1 #0", "read m in - at s: 0 x = 1 #0", "change m in - at s: 0 by 1 #0", "change m in - at s: 1 x + 1 by 1 #0", "change m in - at s: 1 x by 1",
        ]
        self.refused_all(InvalidText, [thing for thing in bad if thing != ""], read_lines, bench, None, at=1)

    def test_errors(self):
        self.refused_all(InvalidBook, odd_objects() + [plain(), [SEEN]], lines_text, None, at=0)
        self.refused_all(InvalidBench, odd_objects() + [Book(plain(), [])], read_lines, None, "", at=0)
        self.refused_all(OutOfOrder, [out_of_order_bench()], read_lines, None, "", at=0)


if __name__ == "__main__":
    unittest.main()
