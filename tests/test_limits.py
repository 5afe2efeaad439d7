"""The later sections at the limits: six variables, twelve stops, three calls deep, the greatest prime, hundreds of rows."""

import random
import unittest

from tests.test_moving import some_stirs
from truestops.benches import Bench, mark_word, marks, out_of_order
from truestops.books import Book, greatest_book, is_lying, is_true, is_why_not_honest, lying_course, walked, why_not_honest
from truestops.exchange import exchange_rule, fits, is_exchange_rule, is_sure_rule, missed, sure_rule, why_no_exchange
from truestops.making import is_made, made
from truestops.moving import change_for, fewest_knobs, is_change_for, is_why_unmoved, movable_stirs, why_unmoved
from truestops.pieces import by_pieces, first_piece, is_first_piece, is_piece_ladder, next_marks, piece_ladder, piece_stirs
from truestops.programs import Program, all_stops
from truestops.flows import points
from truestops.putting import is_put_rule, is_why_unput, put_rule, why_unput
from truestops.rewriting import calls_opened, idle_left_out
from truestops.rows import Rows
from truestops.scripts import end_of, play, read_script, script_text, trimmed
from truestops.sessions import Session, opened, replayed
from truestops.texts import dump_text, lines_text, read_dump, read_lines, read_rows, rows_text


def greatest_program(prime):
    """Calls three deep, with values and results, a round, and a pick of four arms."""
    inner = ("deep", ["p"], ["q"], ([], [("set", "s", "q", {"p": 2 % prime or 1, "x": 1}), ("print", "t", {"q": 1, "y": 1})]))
    middle = ("mid", ["m"], [], ([], [("call", "c", "deep", [{"m": 1, "": 1}], ["x"])]))
    arms = [([], [("print", "f", {"x": 1})]), ([], [("set", "g", "y", {"x": 1, "z": 1})]), ([], []), ([], [("read", "h", "z")])]
    body = ([], [
        ("read", "a", "x"), ("again", "b", ([], [("call", "d", "mid", [{"x": 1, "y": prime - 1}], []), ("read", "e", "y")])),
        ("pick", "k", arms), ("print", "o", {"x": 1, "y": 1, "z": 1}),
    ])
    return Program(prime, ["x", "y", "z"], [inner, middle], body)


class AtTheLimits(unittest.TestCase):
    def benches(self):
        for prime in [2, 65537]:
            program = greatest_program(prime)
            rows = made(program)
            self.assertTrue(is_made(program, rows))
            yield prime, Bench(program, rows)
            yield prime, Bench(program, idle_left_out(rows))

    def test_sizes(self):
        program = greatest_program(65537)
        self.assertEqual(len(all_stops(program)), 12)
        self.assertLessEqual(len(points(program)), 60)
        self.assertEqual(max(len(program.flow.living(place)) for place in program.flow.passing_places.values()), 6)

    def test_moving_and_pieces(self):
        for prime, bench in self.benches():
            self.assertIsNone(out_of_order(bench))
            chance = random.Random(prime)
            for mark, stop in bench.passings.true_seats():
                variables = bench.joints.variables(stop)
                self.assertLessEqual(len(movable_stirs(bench, mark, stop)), len(piece_stirs(bench, mark, stop)))
                for stir in some_stirs(chance, prime, variables, 3):
                    args = (bench, mark, stop, stir)
                    change, bar = change_for(*args), why_unmoved(*args)
                    self.assertTrue(is_change_for(*args, change) if bar is None else is_why_unmoved(*args, bar))
                    self.assertEqual(fewest_knobs(bench, mark, stop, [stir]), int(bar is not None))
                    piece, ladder = first_piece(*args), piece_ladder(*args)
                    self.assertTrue(is_first_piece(*args, piece) if ladder is None else is_piece_ladder(*args, ladder))
                    self.assertEqual(by_pieces(*args), ladder is None)
                self.assertTrue(all(told in bench.passings.true_seats() for told in next_marks(bench, mark, stop)))

    def test_books_and_putting(self):
        for prime, bench in self.benches():
            book = greatest_book(bench, [])
            self.assertTrue(is_true(book))
            self.assertEqual(read_lines(bench, lines_text(book)), book)
            bad = Book(bench, book.lines()[:11] + [book.lines()[0][:4] + ({"#0": 1, "@0.0": 1},)])
            self.assertEqual(is_true(bad), lying_course(bad) is None)
            self.assertTrue(lying_course(bad) is None or is_lying(bad, lying_course(bad)))
            self.assertEqual(len(walked(book, [("number", 1)] + [("choice", 1), ("number", 1)] * 100)[:9]), 9)
            for mark, stop in bench.passings.true_seats()[::3]:
                variables = bench.joints.variables(stop)
                for names in [variables[:1], variables]:
                    args = (bench, [], mark, stop, names)
                    rule, paper = put_rule(*args), why_unput(*args)
                    self.assertTrue(is_put_rule(*args, rule) if paper is None else is_why_unput(*args, paper))
                paper = why_not_honest(bench, [], mark, stop, {variables[0]: 1})
                self.assertTrue(paper is None or is_why_not_honest(bench, [], mark, stop, {variables[0]: 1}, paper))

    def test_exchange_and_sessions(self):
        for prime, bench in self.benches():
            other = Bench(bench.program(), calls_opened(bench.rows())) if prime == 2 else bench
            for mark, stop in bench.passings.true_seats()[::2]:
                seats = [(other, told, at) for told, at in other.passings.true_seats() if at == stop]
                for seat in seats:
                    rule = exchange_rule((bench, mark, stop), seat, None)
                    self.assertEqual(rule is None, why_no_exchange((bench, mark, stop), seat, None) is not None)
                    if missed(seat) is None:
                        self.assertTrue(is_exchange_rule((bench, mark, stop), seat, None, rule))
                self.assertTrue(is_sure_rule((bench, mark, stop), {"": 1}, sure_rule((bench, mark, stop), {"": 1})))
            self.run_long(bench)

    def run_long(self, bench):
        session = Session(bench)
        for _ in range(60):
            here = session.go()
            if here in (("number",), ("choice", 2)):
                session.answer((here[0], 1))
            elif here[0] == "mark":
                session.suppose({"x": 1})
        self.assertLessEqual(len(session.log()), 120)
        twin = replayed(Session(bench), session.log())
        self.assertEqual((twin.here(), twin.beats(), twin.would()), (session.here(), session.beats(), session.would()))
        while session.here()[0] != "mark":
            session.undo()
        dump = session.dump()
        self.assertEqual(read_dump(dump_text(dump)), dump)
        self.assertEqual(opened(bench, dump, session.here()[2]).dump(), dump)

    def test_scripts_and_texts(self):
        for _, bench in self.benches():
            self.assertEqual(read_rows(rows_text(bench.rows())), bench.rows())
            script = [("go",)] * 3 + [("number", 1)] + [("go",), ("read", {"x": 1}), ("move", {"x": 1}), ("here",)] * 5
            script += [("try", [("try", [("try", [("try", [("go",), ("beats",)])])])]), ("would",)]
            self.assertEqual(read_script(script_text(script)), script)
            self.assertEqual(len(play(Session(bench), [bench], script)), len(script))
            left = trimmed(bench, [bench], script[:3] + script[3:8])
            self.assertEqual(end_of(bench, [bench], left), end_of(bench, [bench], script[:8]))

    def test_blocks_ten_deep(self):
        session = Session(list(self.benches())[0][1])
        def deeper(told, many):
            told.go()
            return told.attempt(lambda inner: deeper(inner, many - 1)) if many else told.here()
        session.go()
        before = (session.here(), session.log())
        self.assertEqual(session.attempt(lambda told: deeper(told, 9)), ("number",))
        self.assertEqual((session.here(), session.log()), before)

    def test_hundreds_of_rows(self):
        # Three hundred rows that do nothing but turn boxes, with marks between.
        rows = [("read", 0)]
        for at in range(12):
            rows += [("mark", "m" + "abcdefghijkl"[at], [("s",)])] + [("times", 0, 2), ("more", 0, 1), ("more", 0, 65536), ("times", 0, 32769)] * 5
        rows += [("print", 0), ("end",)]
        program = Program(65537, ["x"], [], ([], [("read", "a", "x"), ("pass", "s"), ("print", "p", {"x": 1})]))
        bench = Bench(program, Rows(65537, 1, {"main": (0, rows)}))
        self.assertEqual([mark_word(bench, mark)[0] for mark in marks(bench)], ["true"] * 12)
        for mark in marks(bench):
            self.assertEqual(change_for(bench, mark, ("s",), {"x": 5}), {"#0": 5})
            self.assertTrue(fits((bench, mark, ("s",)), {"#0": 7, "x": 7}))
        self.assertTrue(is_true(greatest_book(bench, [])))


if __name__ == "__main__":
    unittest.main()
