"""The rows of the interface: just these names and parameters, each defined in the file under which it is listed."""

import inspect
import unittest

from truestops import (
    alike, benches, books, errors, exchange, flows, making, moving, numbers, pieces, programs, putting, reading, rewriting, rows,
    scripts, seen, sessions, spans, texts,
)

LISTED = {
    numbers: [
        "inverse(prime, number)", "combined(prime, vectors, factors)", "reduced(prime, vectors)", "rank(prime, vectors)",
        "solved(prime, vectors, wanted)", "is_solved(prime, vectors, wanted, value)", "barred(prime, vectors, wanted)",
        "is_barred(prime, vectors, wanted, value)", "nothings(prime, vectors)", "between(prime, first, second, wanted)",
        "is_between(prime, first, second, wanted, value)", "barred_between(prime, first, second, wanted)",
        "is_barred_between(prime, first, second, wanted, value)",
    ],
    programs: [
        "Program(prime, shared, procedures, body)", "run_program(program, inputs)", "all_stops(program)",
        "holders_at(program, stop)", "in_sight(program, stop)", "passed_stops(program, inputs)", "program_text(program)",
        "read_program(text)",
    ],
    flows: [
        "points(program)", "stop_places(program)", "alive_at(program, place)", "way_of(program, inputs)",
        "run_flow(program, inputs)",
    ],
    rows: [
        "Rows(prime, boxes, units)", "run_rows(rows, inputs)", "stands(rows, inputs)", "paths_of(rows)",
        "marks_of(rows)", "passed_marks(rows, inputs)", "linked(prime, boxes, parts)", "wants(prime, boxes, units)",
    ],
    spans: [
        "state_at(engine, where, inputs)", "kept_at(engine, where)", "is_mixture(engine, where, value)",
        "always(engine, where, wanted)", "always_zero(engine, where)", "is_always_zero(engine, where, wanted)",
    ],
    alike: [
        "alike(one, other)", "parting_inputs(one, other)", "kept_beside(one, other)", "enough(one, other)",
        "where_beside(one, other, where)", "alike_paper(one, other)", "is_alike_paper(one, other, value)",
    ],
    seen: [
        "shown(engine, where, stir, going_on)", "is_idle(engine, where, stir)", "idle_stirs(engine, where)",
        "showing(engine, where, stir)", "seen_sums(engine, where)", "seen_paper(engine, where)",
        "is_seen_paper(engine, where, value)",
    ],
    making: [
        "made(program)", "is_made(program, value)", "bare_stops(bench)", "unread(bench, stop)",
        "straight(prime, cells, wanted)", "are_straight(prime, cells, wanted, value)",
    ],
    rewriting: [
        "passes_alike(one, other)", "parting_passes(one, other)", "calls_opened(rows)", "is_calls_opened(rows, value)",
        "tails_joined(rows)", "is_tails_joined(rows, value)", "lost_stops(one, other)", "idle_rows(rows)",
        "idle_left_out(rows)", "is_idle_left_out(rows, value)", "boxes_called(rows, order)",
    ],
    benches: [
        "Bench(program, rows)", "marks(bench)", "stops_of(bench, mark)", "mark_word(bench, mark)",
        "out_of_order(bench)", "where_rule(bench, mark, stop)", "is_where_rule(bench, mark, stop, value)",
        "where_point(bench, mark, stop)", "is_where_point(bench, mark, stop, value)",
    ],
    reading: [
        "read_rule(bench, mark, stop, wanted)", "is_read_rule(bench, mark, stop, wanted, value)",
        "read_runs(bench, mark, stop, wanted)", "are_read_runs(bench, mark, stop, wanted, value)",
        "readable(bench, mark, stop)", "notes(bench, mark, stop, sums)", "are_notes(bench, mark, stop, sums, value)",
        "past_rule(bench, earlier, stop, mark, wanted)", "is_past_rule(bench, earlier, stop, mark, wanted, value)",
        "past_runs(bench, earlier, stop, mark, wanted)", "are_past_runs(bench, earlier, stop, mark, wanted, value)",
    ],
    moving: [
        "change_for(bench, mark, stop, stir)", "is_change_for(bench, mark, stop, stir, value)",
        "movable_stirs(bench, mark, stop)", "why_unmoved(bench, mark, stop, stir)",
        "is_why_unmoved(bench, mark, stop, stir, value)", "common_change(bench, mark, stirs)",
        "is_common_change(bench, mark, stirs, value)", "why_no_common(bench, mark, stirs)",
        "is_why_no_common(bench, mark, stirs, value)", "change_with_knobs(bench, mark, stop, stir, knobs_told)",
        "is_change_with_knobs(bench, mark, stop, stir, knobs_told, value)", "fewest_knobs(bench, mark, stop, stirs)",
        "knobs(bench, mark, stop, stirs)", "are_knobs(bench, mark, stop, stirs, value)",
        "moved_run(bench, mark, stop, stir, change, amount, inputs)",
    ],
    pieces: [
        "piece_stirs(bench, mark, stop)", "by_pieces(bench, mark, stop, stir)", "first_piece(bench, mark, stop, stir)",
        "is_first_piece(bench, mark, stop, stir, value)", "next_marks(bench, mark, stop)",
        "carried(bench, mark, stop, stir, letters)", "piece_ladder(bench, mark, stop, stir)",
        "is_piece_ladder(bench, mark, stop, stir, value)",
    ],
    putting: [
        "put_rule(bench, readings, mark, stop, names)", "is_put_rule(bench, readings, mark, stop, names, value)",
        "counted_sums(bench, readings, mark, stop, names)", "why_unput(bench, readings, mark, stop, names)",
        "is_why_unput(bench, readings, mark, stop, names, value)", "put_numbers(bench, mark, rule, holders, wishes)",
    ],
    books: [
        "Book(bench, lines)", "is_honest(bench, readings, line)", "honest_change(bench, readings, mark, stop, stir)",
        "honest_stirs(bench, readings, mark, stop)", "why_not_honest(bench, readings, mark, stop, stir)",
        "is_why_not_honest(bench, readings, mark, stop, stir, value)", "walked(book, course)", "is_lying(book, value)",
        "is_true(book)", "lying_course(book)", "greatest_book(bench, readings)", "joined(one, other)",
    ],
    exchange: [
        "fits(one, state)", "exchange_rule(one, other, links)", "is_exchange_rule(one, other, links, value)", "missed(one)",
        "why_no_exchange(one, other, links)", "is_why_no_exchange(one, other, links, value)", "sure_rule(one, wanted)",
        "is_sure_rule(one, wanted, value)", "chained(prime, first, second)",
    ],
    sessions: [
        "is_dump(bench, value)", "Session(bench)", "opened(bench, dump, stop)", "replayed(session, log)",
    ],
    scripts: [
        "play(session, benches, script)", "script_text(script)", "read_script(text)", "end_of(bench, benches, script)",
        "trimmed(bench, benches, script)",
    ],
    texts: [
        "sum_text(wanted)", "read_sum(text)", "path_text(path)", "read_path(text)", "mark_text(mark)", "read_mark(text)",
        "rows_text(rows)", "read_rows(text)", "exchange_text(rule)", "read_exchange(text)", "dump_text(dump)",
        "read_dump(text)", "lines_text(book)", "read_lines(bench, text)",
    ],
}
METHODS = {
    programs.Program: ["prime(self)", "shared(self)", "procedures(self)", "body(self)", "__eq__(self, other)"],
    rows.Rows: ["prime(self)", "boxes(self)", "units(self)", "__eq__(self, other)"],
    benches.Bench: ["program(self)", "rows(self)", "__eq__(self, other)"],
    sessions.Session: [
        "here(self)", "bench(self)", "go(self)", "answer(self, letter)", "beats(self)", "would(self)", "read(self, wanted)",
        "move(self, stir)", "suppose(self, stir)", "put(self, wishes)", "exchange(self, other, mark)", "dump(self)",
        "log(self)", "undo(self)", "redo(self)", "trial(self)", "attempt(self, action)", "copy(self)",
    ],
    books.Book: ["bench(self)", "lines(self)", "__eq__(self, other)"],
}


class Interface(unittest.TestCase):
    def test_functions_and_classes(self):
        for module, listed in LISTED.items():
            for row in listed:
                name = row.partition("(")[0]
                thing = getattr(module, name)
                self.assertEqual(name + str(inspect.signature(thing)), row)
                self.assertEqual(thing.__module__, module.__name__)

    def test_methods_stand_in_the_class(self):
        for kind, listed in METHODS.items():
            for row in listed:
                name = row.partition("(")[0]
                self.assertEqual(name + str(inspect.signature(vars(kind)[name])), row)

    def test_errors(self):
        for name, thing in vars(errors).items():
            if isinstance(thing, type):
                self.assertEqual((name, thing.__module__), (thing.__name__, "truestops.errors"))

    def test_objects_are_of_the_listed_classes(self):
        self.assertIs(type(programs.Program(5, [], [], ([], []))), programs.Program)
        self.assertIs(type(programs.read_program("prime 5\nshared ()\nmain")), programs.Program)


if __name__ == "__main__":
    unittest.main()
