"""The blocks of examples of the document, line by line, each with the answers that it gives."""

import unittest

NUMBERS = """
from truestops.numbers import barred, between, combined, inverse, is_barred_between, is_between, is_solved, nothings, rank, reduced, solved
[inverse(5, 2), inverse(5, 4), combined(5, [[1, 2], [3, 4]], [2, 1]), reduced(5, [[2, 4, 1], [1, 2, 4]]), rank(5, [[1, 2], [2, 4]])]
# [3, 4, [0, 3], [[1, 2, 0], [0, 0, 1]], 1]
[is_solved(5, [[1, 2], [2, 4]], [3, 1], [1, 1]), solved(5, [[1, 2]], [3, 1]), solved(5, [[1, 2]], [1, 1]), barred(5, [[1, 2]], [1, 1]), nothings(5, [[1, 2], [2, 4], [0, 1]])]
# [True, [3], None, [2, 4], [[1, 2, 0]]]
[is_between(5, [[1, 0]], [[1], [2]], [[3]], [[3, 0], [0, 0]]), between(5, [[0], [1]], [[1]], [[1], [0]]), is_barred_between(5, [[0], [1]], [[1]], [[1], [0]], ("first", [1, 0]))]
# [True, None, True]
"""

PROGRAMS = """
from truestops.programs import Program, all_stops, holders_at, in_sight, passed_stops, program_text, read_program, run_program
ups = Program(5, ["n"], [("up", ["x"], ["y"], ([], [("set", "u", "y", {"x": 2})]))], ([], [("again", "w", ([], [("call", "c", "up", [{"": 1, "n": 1}], ["n"]), ("print", "o", {"n": 1})]))]))
[run_program(ups, [("choice", 1), ("choice", 1), ("choice", 0)]), all_stops(ups), holders_at(ups, ("c", "u")), in_sight(ups, ("c", "u"))["x"]]
# [([[], [2], [1], []], ('end',)), [('w',), ('c',), ('c', 'u'), ('o',)], ['c.x', 'c.y', 'n'], 'c.x']
passed_stops(ups, [("choice", 1)])
# [(('c',), {'n': 0}, 0), (('c', 'u'), {'c.x': 1, 'c.y': 0, 'n': 0}, 0), (('o',), {'n': 2}, 0), (('w',), {'n': 2}, 1)]
[program_text(ups).split(chr(10)), read_program(program_text(ups)) == ups]
# [['prime 5', 'shared (n)', 'procedure up (x) (y)', '  u: set y = 2 x', 'main', '  w: again', '    c: call up (1 n + 1) (n)', '    o: print 1 n'], True]
"""

FLOWS = """
from truestops.flows import alive_at, points, run_flow, stop_places, way_of
from truestops.programs import Program
ups = Program(5, ["n"], [("up", ["x"], ["y"], ([], [("set", "u", "y", {"x": 2})]))], ([], [("again", "w", ([], [("call", "c", "up", [{"": 1, "n": 1}], ["n"]), ("print", "o", {"n": 1})]))]))
points(ups)[:6]
# [('live', ['n'], 1), ('pass', ('w',), 2), ('pick', [12, 3]), ('pass', ('c',), 4), ('live', ['c.x', 'c.y'], 5), ('set', 'c.x', {'': 1, 'n': 1}, 6)]
points(ups)[6:]
# [('pass', ('c', 'u'), 7), ('set', 'c.y', {'c.x': 2}, 8), ('set', 'n', {'c.y': 1}, 9), ('gone', ['c.x', 'c.y'], 10), ('pass', ('o',), 11), ('print', {'n': 1}, 1), ('end',)]
[way_of(ups, []), way_of(ups, [("choice", 1)]), way_of(ups, [("choice", 0)]), alive_at(ups, 6), run_flow(ups, [("choice", 1)])]
# [[0, 1, 2], [3, 4, 5, 6, 7, 8, 9, 10, 11, 1, 2], [12], ['c.x', 'c.y', 'n'], ([[], [2]], ('choice', 2))]
fork = Program(3, [], [], ([], [("pick", "p", [(["t"], [("read", "r", "t")]), ([], [])]), ("pass", "z")]))
[points(fork), stop_places(fork)[("z",)]]
# [[('pass', ('p',), 1), ('pick', [2, 6]), ('live', ['t'], 3), ('pass', ('r',), 4), ('read', 't', 5), ('gone', ['t'], 6), ('pass', ('z',), 7), ('end',)], 6]
"""

ROWS = """
from truestops.rows import Rows, linked, marks_of, passed_marks, paths_of, run_rows, stands, wants
twice = {"twice": (0, [("copy", 1, 0), ("add", 0, 1), ("back",)])}
head = {"main": (1, [("read", 0), ("keep", 0, 0), ("mark", "m", [("s",)]), ("call", "twice", "c"), ("print", 0), ("end",)])}
echo = linked(5, 2, [twice, head])
[run_rows(echo, []), run_rows(echo, [("number", 3)]), stands(echo, [("number", 3)]), wants(5, 2, head), list(echo.units())]
# [([[]], ('number',)), ([[], [1]], ('end',)), (((), 'main', 5), {'#0': 1, '#1': 3, '@0.0': 3}), ['twice'], ['main', 'twice']]
[paths_of(echo), marks_of(echo), passed_marks(echo, [("number", 3)])]
# [{(): ['#0', '#1', '@0.0'], ('c',): ['#0', '#1', '@0.0']}, [(('m', ()), [('s',)])], [(('m', ()), {'#0': 3, '#1': 0, '@0.0': 3}, 0)]]
"""

SPANS = """
from truestops.programs import Program
from truestops.rows import Rows
from truestops.spans import always, always_zero, is_always_zero, is_mixture, kept_at, state_at
nought, one, round_on, on = ("number", 0), ("number", 1), ("choice", 1), ("choice", 0)
steps = [("read", "a", "x"), ("again", "b", ([], [("set", "c", "y", {"x": 1, "y": 1})])), ("print", "d", {"y": 1})]
sums = Program(5, ["x", "y"], [], ([], steps))
[state_at(sums, ("c",), [("number", 3), round_on, round_on]), state_at(sums, ("d",), [one]), kept_at(sums, ("a",))]
# [{'x': 3, 'y': 3}, None, [([], {'x': 0, 'y': 0})]]
[inputs for inputs, state in kept_at(sums, ("b",))] == [[nought], [one], [one, round_on]]
# True
[always(sums, ("a",), {"x": 1, "": 3}), always(sums, ("c",), {"x": 2}) == ("breaks", [nought, round_on], [one, round_on]), always_zero(sums, ("a",)), always_zero(sums, ("d",))]
# [('always', 3), True, [{'x': 1}, {'y': 1}], []]
plain = Rows(5, 2, {"main": (0, [("read", 0), ("pick", [4, 2]), ("add", 1, 0), ("go", 1), ("mark", "m", [("d",)]), ("print", 1), ("end",)])})
[state for inputs, state in kept_at(plain, ("m", ()))]
# [{'#0': 0, '#1': 0}, {'#0': 1, '#1': 0}, {'#0': 1, '#1': 1}]
[is_mixture(plain, ("m", ()), {"#0": 4, "#1": 2}), is_always_zero(plain, ("m", ()), {"#0": 1})]
# [True, False]
"""

ALIKE = """
from truestops.alike import alike, alike_paper, enough, is_alike_paper, kept_beside, parting_inputs, where_beside
from truestops.programs import Program
from truestops.rows import Rows
deeds = [("read", "a", "x"), ("again", "b", ([], [("set", "c", "y", {"x": 1, "y": 1})])), ("print", "d", {"y": 1})]
summing = Program(5, ["x", "y"], [], ([], deeds))
first = [("read", 0), ("pick", [4, 2]), ("add", 1, 0), ("go", 1), ("print", 1), ("end",)]
good, bad = [Rows(5, 2, {"main": (0, rows)}) for rows in [first, first[:2] + [("copy", 1, 0)] + first[3:]]]
[alike(summing, good), parting_inputs(summing, good), enough(summing, good), alike_paper(summing, bad)]
# [True, None, 4, None]
parting_inputs(summing, bad)
# [('number', 1), ('choice', 1), ('choice', 1), ('choice', 0)]
kept_beside(summing, good)[3]
# ([('number', 1), ('choice', 1)], {'x': 1, 'y': 1}, {'#0': 1, '#1': 1})
[is_alike_paper(summing, good, alike_paper(summing, good)), is_alike_paper(summing, good, {}), [place for inputs, state, place, state_there in where_beside(summing, good, ("c",))] == [((), "main", 1)] * 3]
# [True, False, True]
"""

SEEN = """
from truestops.programs import Program
from truestops.seen import idle_stirs, is_idle, is_seen_paper, seen_sums, showing, shown
lines = [("read", "a", "x"), ("set", "b", "y", {"x": 2}), ("print", "c", {"x": 1, "y": 1})]
double = Program(5, [], [], (["x", "y"], lines + [("again", "d", ([], [("print", "e", {"y": 1})]))]))
[shown(double, ("c",), {"x": 1, "y": 4}, [("choice", 1)]), showing(double, ("c",), {"x": 1, "y": 4}), showing(double, ("b",), {"y": 3})]
# [[0, 4], ([('choice', 1)], 1), None]
[seen_sums(double, ("b",)), seen_sums(double, ("c",)), idle_stirs(double, ("b",)), idle_stirs(double, ("d",)), is_idle(double, ("d",), {"x": 2})]
# [[{'x': 1}], [{'x': 1}, {'y': 1}], [{'y': 1}], [{'x': 1}], True]
[is_seen_paper(double, ("c",), [([], 0), ([("choice", 1)], 1)]), is_seen_paper(double, ("c",), [([], 0)]), shown(double, ("a",), {"x": 1}, [("number", 3)])]
# [True, False, [0]]
"""

MAKING = """
from truestops.benches import Bench
from truestops.making import are_straight, bare_stops, is_made, made, straight, unread
from truestops.programs import Program
from truestops.rows import Rows
keep = Program(5, ["x"], [], ([], [("read", "a", "x"), ("print", "b", {"x": 2}), ("print", "c", {"x": 1})]))
rough = Rows(5, 1, {"main": (0, [("mark", "i", [("a",)]), ("read", 0), ("times", 0, 2), ("mark", "j", [("b",)]), ("print", 0), ("times", 0, 3), ("print", 0), ("end",)])})
[is_made(keep, made(keep)), is_made(keep, rough), bare_stops(Bench(keep, rough)), unread(Bench(keep, rough), ("b",))]
# [True, False, [('c',)], []]
[are_straight(5, 2, {"": 1, "@0.1": 3}, [("take", 0, 1), ("times", 0, 3), ("more", 0, 1)]), are_straight(5, 2, {"@0.1": 1}, [("add", 0, 1)])]
# [True, False]
"""

REWRITING = """
from truestops.rewriting import boxes_called, calls_opened, idle_rows, is_idle_left_out, is_tails_joined, lost_stops, parting_passes, passes_alike
from truestops.rows import Rows
inner = {"main": (1, [("read", 0), ("call", "d", "c"), ("print", 0), ("end",)]), "d": (0, [("more", 0, 1), ("mark", "m", [("s",)]), ("back",)])}
calls = Rows(5, 2, inner)
plain = Rows(5, 2, {"main": (1, [("read", 0), ("copy", 1, 0), ("more", 0, 1), ("mark", "n", [("c", "s")]), ("print", 0), ("end",)])})
[passes_alike(calls, plain), passes_alike(calls, calls_opened(calls)), idle_rows(plain), idle_rows(calls)]
# [True, True, [('main', 1)], []]
less = Rows(5, 2, {"main": (1, [("read", 0), ("more", 0, 1), ("print", 0), ("end",)])})
[is_idle_left_out(plain, less), is_tails_joined(plain, less), lost_stops(plain, less), parting_passes(plain, less), passes_alike(plain, boxes_called(plain, [1, 0]))]
# [False, True, [('c', 's')], [('number', 0)], True]
"""

BENCHES = """
from truestops.benches import Bench, is_where_point, mark_word, marks, out_of_order, stops_of, where_point, where_rule
from truestops.programs import Program
from truestops.rows import Rows
arms = [([], [("pass", "a")]), ([], [("set", "b", "x", {"x": 2})])]
doubled = Program(5, ["x"], [], ([], [("read", "r", "x"), ("pick", "k", arms), ("print", "e", {"x": 1})]))
def made(row, stops):
    return Rows(5, 2, {"main": (0, [("read", 0), ("pick", [2, 4]), row, ("go", 5), ("times", 0, 2), ("mark", "m", stops), ("print", 0), ("end",)])})
told, mute, astray = [Bench(doubled, made(row, stops)) for row, stops in [(("set", 1, 1), [("a",), ("b",)]), (("go", 5), [("a",), ("b",)]), (("go", 5), [("a",)])]]
joined = ("m", ())
[marks(told), stops_of(told, joined), mark_word(told, joined), mark_word(astray, joined), out_of_order(told)]
# [[('m', ())], [('a',), ('b',)], ('true', [('number', 0), ('choice', 0)]), ('stray', [('number', 0), ('choice', 1)]), None]
[where_rule(told, joined, ("a",)), where_rule(told, joined, ("b",)), where_point(told, joined, ("a",)), where_rule(mute, joined, ("a",))]
# [{'#1': 1}, {'': 1, '#1': 4}, None, None]
[is_where_point(mute, joined, ("a",), ([([("number", 4), ("choice", 0)], 1)], [([("number", 2), ("choice", 1)], 1)])), is_where_point(mute, joined, ("a",), ([([("number", 4), ("choice", 0)], 1)], [([("number", 4), ("choice", 1)], 1)]))]
# [True, False]
"""

READING = """
from truestops.benches import Bench
from truestops.programs import Program
from truestops.reading import are_notes, are_read_runs, is_read_rule, past_rule, read_rule, readable
from truestops.rows import Rows
tale = Program(5, ["x", "y"], [], ([], [("read", "a", "x"), ("read", "b", "y"), ("print", "c", {"x": 1, "y": 1})]))
made = Rows(5, 2, {"main": (0, [("read", 0), ("mark", "k", [("b",)]), ("read", 1), ("add", 0, 1), ("set", 1, 0), ("mark", "m", [("c",)]), ("print", 0), ("end",)])})
desk, early, late = Bench(tale, made), ("k", ()), ("m", ())
[is_read_rule(desk, early, ("b",), {"x": 1}, {"#0": 1}), read_rule(desk, late, ("c",), {"x": 1}), is_read_rule(desk, late, ("c",), {"x": 1, "y": 1}, {"#0": 1}), is_read_rule(desk, late, ("c",), {"x": 1, "y": 1}, {"#0": 1, "#1": 3})]
# [True, None, True, True]
runs = [([("number", 1), ("number", 0)], 1), ([("number", 0), ("number", 1)], 4)]
[are_read_runs(desk, late, ("c",), {"x": 1}, runs), are_read_runs(desk, late, ("c",), {"x": 1, "y": 1}, runs), readable(desk, late, ("c",)), readable(desk, early, ("b",))]
# [True, False, [{'x': 1, 'y': 1}], [{'x': 1}, {'y': 1}]]
[are_notes(desk, late, ("c",), [{"x": 1}, {"y": 1}], [1]), are_notes(desk, late, ("c",), [{"x": 1}, {"y": 1}], []), are_notes(desk, late, ("c",), [{"x": 1}, {"y": 1}], [0, 1]), past_rule(desk, early, ("b",), late, {"x": 1})]
# [True, False, False, None]
"""

MOVING = """
from truestops.benches import Bench
from truestops.moving import change_for, fewest_knobs, is_change_for, is_change_with_knobs, is_why_unmoved, movable_stirs, moved_run
from truestops.programs import Program
from truestops.rows import Rows
lines = [("read", "a", "x"), ("set", "b", "y", {"x": 2}), ("print", "c", {"x": 1, "y": 1})]
double = Program(5, [], [], (["x", "y"], lines + [("again", "d", ([], [("print", "e", {"y": 1})]))]))
first = [("read", 0), ("mark", "m", [("c",)]), ("copy", 1, 0), ("times", 1, 3), ("print", 1), ("copy", 1, 0), ("times", 1, 2)]
thin = Bench(double, Rows(5, 2, {"main": (0, first + [("pick", [10, 8]), ("print", 1), ("go", 7), ("end",)])}))
m, c = ("m", ()), ("c",)
[is_change_for(thin, m, c, {"x": 1, "y": 2}, {"#0": 1}), change_for(thin, m, c, {"x": 1}), movable_stirs(thin, m, c), fewest_knobs(thin, m, c, [{"x": 1}, {"y": 1}])]
# [True, None, [{'x': 1, 'y': 2}], 1]
[is_why_unmoved(thin, m, c, {"x": 1}, [([], 0, 1), ([("choice", 1)], 1, 1)]), is_change_with_knobs(thin, m, c, {"y": 1}, [{"x": 1}], ({"#0": 3}, [2]))]
# [True, True]
moved_run(thin, m, c, {"x": 1, "y": 2}, {"#0": 1}, 2, [("number", 1), ("choice", 1)])
# ([[], [4], [1]], [[], [4], [1]])
"""

PIECES = """
from truestops.benches import Bench
from truestops.pieces import by_pieces, carried, first_piece, is_piece_ladder, next_marks, piece_ladder, piece_stirs
from truestops.programs import Program
from truestops.rows import Rows
both = Program(5, ["u", "v"], [], ([], [("read", "r", "u"), ("set", "w", "v", {"u": 1}), ("print", "s", {"u": 1}), ("print", "t", {"v": 1})]))
def one_box(rows):
    return Bench(both, Rows(5, 1, {"main": (0, [("read", 0), ("mark", "m", [("s",)]), ("print", 0)] + rows + [("print", 0), ("end",)])}))
parted, whole, here, there = one_box([("mark", "n", [("t",)])]), one_box([]), ("m", ()), ("n", ())
[piece_stirs(parted, here, ("s",)), piece_stirs(whole, here, ("s",)), by_pieces(whole, here, ("s",), {"u": 1})]
# [[{'u': 1}, {'v': 1}], [{'u': 1, 'v': 1}], False]
[first_piece(parted, here, ("s",), {"u": 2}), first_piece(parted, here, ("s",), {"v": 1}), next_marks(parted, here, ("s",)), carried(parted, here, ("s",), {"u": 1, "v": 2}, []), carried(whole, here, ("s",), {"u": 1}, [])]
# [{'#0': 2}, {}, [(('n', ()), ('t',))], (('n', ()), ('t',), {'u': 1, 'v': 2}), None]
step = (here, ("s",), {"u": 1, "v": 4}, [("print", [], 0, 1), ("print", [], 1, 4)])
[is_piece_ladder(whole, here, ("s",), {"u": 1}, [step]), is_piece_ladder(whole, here, ("s",), {"u": 1, "v": 1}, [step]), piece_ladder(parted, here, ("s",), {"u": 1})]
# [True, False, None]
"""

PUTTING = """
from truestops.benches import Bench
from truestops.programs import Program
from truestops.putting import counted_sums, is_put_rule, is_why_unput, put_numbers, put_rule
from truestops.rows import Rows
tale = Program(5, ["x", "y"], [], ([], [("read", "a", "x"), ("read", "b", "y"), ("print", "c", {"x": 1, "y": 1})]))
made = Rows(5, 2, {"main": (0, [("read", 0), ("read", 1), ("add", 0, 1), ("set", 1, 0), ("mark", "m", [("c",)]), ("print", 0), ("end",)])})
desk, late, both = Bench(tale, made), ("m", ()), {"#0": {"=x": 1, "=y": 1}}
[put_rule(desk, [], late, ("c",), ["x"]), put_rule(desk, [], late, ("c",), ["y"]), is_put_rule(desk, [], late, ("c",), ["x", "y"], both), counted_sums(desk, [], late, ("c",), ["x", "y"]), counted_sums(desk, [], late, ("c",), ["x"])]
# [None, None, True, [{'x': 1, 'y': 1}], [{'x': 1}]]
runs = [([("number", 1), ("number", 0)], 1), ([("number", 0), ("number", 1)], 4)]
[is_why_unput(desk, [], late, ("c",), ["x"], ("read", [], 0, runs)), is_why_unput(desk, [], late, ("c",), ["x", "y"], ("read", [], 0, runs)), put_numbers(desk, late, both, {"#0": 3, "#1": 0}, {"x": 1, "y": 1}), is_put_rule(desk, [], late, ("c",), [], {})]
# [True, False, {'#0': 2, '#1': 0}, True]
"""

BOOKS = """
from truestops.benches import Bench
from truestops.books import Book, honest_change, honest_stirs, is_lying, is_true, is_why_not_honest, lying_course, walked
from truestops.programs import Program
from truestops.rows import Rows
plain = Program(5, [], [], (["x"], [("read", "a", "x"), ("pass", "s"), ("print", "b", {"x": 1})]))
bench = Bench(plain, Rows(5, 1, {"main": (0, [("read", 0), ("mark", "m", [("s",)]), ("print", 0), ("end",)])}))
seen, good, bad = ("read", ("m", ()), ("s",), {"x": 1}, {"#0": 1}), ("change", ("m", ()), ("s",), {"x": 1}, {"#0": 1}), ("change", ("m", ()), ("s",), {"x": 1}, {"#0": 2})
[is_true(Book(bench, [seen, good])), honest_change(bench, [seen], ("m", ()), ("s",), {"x": 1}), honest_stirs(bench, [], ("m", ()), ("s",))]
# [True, {'#0': 1}, [{'x': 1}]]
false = Book(bench, [seen, bad])
[is_true(false), is_lying(false, lying_course(false)), len(lying_course(false)), walked(false, [("number", 3), ("move", 1, 1)])]
# [False, True, 2, [('read', 0, 0, 4), ('printed', 0, 4)]]
double = Program(5, [], [], (["x", "y"], [("read", "a", "x"), ("set", "b", "y", {"x": 1}), ("pass", "s"), ("print", "c", {"x": 1}), ("print", "d", {"y": 1})]))
both = Bench(double, Rows(5, 1, {"main": (0, [("read", 0), ("mark", "m", [("s",)]), ("print", 0), ("print", 0), ("end",)])}))
[honest_change(both, [], ("m", ()), ("s",), {"x": 1}), is_why_not_honest(both, [], ("m", ()), ("s",), {"x": 1}, [([], 0, 1), ([], 1, 4)]), honest_stirs(both, [], ("m", ()), ("s",))]
# [None, True, [{'x': 1, 'y': 1}]]
"""

EXCHANGE = """
from truestops.benches import Bench
from truestops.exchange import chained, exchange_rule, fits, is_sure_rule, is_why_no_exchange, missed
from truestops.programs import Program
from truestops.rows import Rows
echo = Program(5, ["a", "b"], [], ([], [("read", "q", "a"), ("read", "r", "b"), ("pass", "s"), ("print", "t", {"a": 1, "b": 1})]))
lone = Rows(5, 2, {"main": (0, [("read", 0), ("read", 1), ("add", 0, 1), ("set", 1, 0), ("mark", "m", [("s",)]), ("print", 0), ("end",)])})
pair = Rows(5, 2, {"main": (0, [("read", 0), ("read", 1), ("mark", "n", [("s",)]), ("add", 1, 0), ("print", 1), ("end",)])})
here, there = (Bench(echo, lone), ("m", ()), ("s",)), (Bench(echo, pair), ("n", ()), ("s",))
[fits(here, {"#0": 3, "#1": 4, "a": 1, "b": 2}), fits(there, {"#0": 0, "#1": 2, "a": 1, "b": 2}), missed(there), exchange_rule(there, here, None)["#0"]]
# [True, False, None, {'#0': 1, '#1': 1}]
[chained(5, {"#0": {"": 2}, "#1": {"#0": 1}}, {"#0": {"#0": 1, "#1": 3}})]
# [{'#0': {'': 2, '#0': 3}}]
some = Program(5, ["x"], [], ([], [("read", "u", "x"), ("pass", "v"), ("print", "w", {"x": 1})]))
next_one = (Bench(some, Rows(5, 1, {"main": (0, [("read", 0), ("mark", "k", [("v",)]), ("print", 0), ("end",)])})), ("k", ()), ("v",))
lots = [({"#0": 1, "#1": 0, "a": 1, "b": 0}, 1), ({"#0": 1, "#1": 0, "a": 0, "b": 1}, 4)]
[exchange_rule(here, next_one, {"x": {"a": 1, "b": 1}}), is_why_no_exchange(here, next_one, {"x": {"a": 1}}, ("ahead", lots, [], 0)), is_sure_rule(here, {"a": 2, "b": 2}, {"#0": 2})]
# [{'#0': {'#0': 1}}, True, True]
"""

SESSIONS = """
from truestops.benches import Bench
from truestops.programs import Program
from truestops.rows import Rows
from truestops.sessions import Session, opened
both = Program(5, ["x", "y"], [], ([], [("read", "a", "x"), ("read", "b", "y"), ("pass", "s"), ("print", "p", {"x": 1, "y": 1})]))
one = [("read", 0), ("read", 1), ("add", 0, 1), ("set", 1, 0), ("mark", "m", [("s",)]), ("print", 0), ("end",)]
bench = Bench(both, Rows(5, 2, {"main": (0, one)}))
session, sum_of_both = Session(bench), {"x": 1, "y": 1}
[session.go(), session.answer(("number", 2)), session.go(), session.answer(("number", 4)), session.go()]
# [('number',), None, ('number',), None, ('mark', ('m', ()), ('s',))]
[session.read({"x": 1}), session.read(sum_of_both), session.move({"x": 1}), session.read(sum_of_both), session.suppose({"y": 2})]
# [None, 1, None, 2, None]
[session.read(sum_of_both), session.go(), session.beats(), session.would()]
# [4, ('end',), [[], [], [2]], [[], [], [4]]]
later = opened(bench, (("m", ()), {"#0": 3, "#1": 0}), ("s",))
[later.put({"x": 4, "y": 3}), later.read(sum_of_both), later.go(), later.beats()]
# [None, 2, ('end',), [[2]]]
"""

SCRIPTS = """
from truestops.benches import Bench
from truestops.programs import Program
from truestops.rows import Rows
from truestops.scripts import play, read_script, script_text, trimmed
from truestops.sessions import Session
watch = Bench(Program(5, [], [], (["x"], [("read", "a", "x"), ("pass", "s"), ("print", "b", {"x": 1})])), Rows(5, 1, {"main": (0, [("read", 0), ("mark", "m", [("s",)]), ("print", 0), ("end",)])}))
day = [("move", {"x": 1}), ("go",), ("number", 3), ("go",), ("move", {"x": 1}), ("read", {"x": 1}), ("go",), ("would",)]
play(Session(watch), [], day)
# [('refused', 'NotHere'), ('here', ('number',)), ('done',), ('here', ('mark', ('m', ()), ('s',))), ('done',), ('read', 4), ('here', ('end',)), ('would', [[], [4]])]
[script_text(day).split(chr(10))[4:6], read_script(script_text(day)) == day, trimmed(watch, [], [("go",), ("here",), ("number", 3), ("beats",)])]
# [['move 1 x', 'read 1 x'], True, [('go',), ('number', 3)]]
"""

TEXTS = """
from truestops.benches import Bench
from truestops.books import Book
from truestops.programs import Program
from truestops.rows import Rows
from truestops.texts import dump_text, exchange_text, lines_text, mark_text, read_exchange, read_lines, read_mark, read_path, read_rows, read_sum, rows_text, sum_text
[sum_text({"": 3, "c.x": 1, "#0": 2}), read_sum("0 x + 4 y"), read_sum("0"), mark_text(("m", ("c", "d"))), read_mark("m in -"), read_path("c.u")]
# ['2 #0 + 1 c.x + 3', {'x': 0, 'y': 4}, {}, 'm in c.d', ('m', ()), ('c', 'u')]
lone = Rows(5, 1, {"main": (0, [("read", 0), ("mark", "m", [("s",)]), ("print", 0), ("end",)])})
[rows_text(lone).split(chr(10)), read_rows(rows_text(lone)) == lone]
# [['prime 5', 'boxes 1', 'unit main 0', '  read 0', '  mark m s', '  print 0', '  end'], True]
[exchange_text({"#0": {"": 2, "#0": 1}, "#1": {}}), read_exchange("-"), dump_text((("m", ()), {"#0": 0, "@0.0": 3}))]
# ['#0 = 1 #0 + 2; #1 = 0', {}, 'm in -: #0 = 0; @0.0 = 3']
echo = Bench(Program(5, ["x"], [], ([], [("read", "r", "x"), ("pass", "s"), ("print", "t", {"x": 1})])), lone)
book = Book(echo, [("read", ("m", ()), ("s",), {"x": 1}, {"#0": 1}), ("change", ("m", ()), ("s",), {"x": 1}, {"#0": 1})])
[lines_text(book).split(chr(10)), read_lines(echo, lines_text(book)) == book]
# [['read m in - at s: 1 x = 1 #0', 'change m in - at s: 1 x by 1 #0'], True]
"""


def statements(block):
    """The lines of a block; a function's lines are one statement."""
    found = []
    for line in block.strip().split("\n"):
        if line.startswith("    "):
            found[-1] += "\n" + line
        else:
            found.append(line)
    return found


def answers(block):
    """Each answer that a block gives, beside what its line comes to here."""
    known, last, found = {}, None, []
    for line in statements(block):
        if line.startswith("# "):
            found.append((line[2:], last))
            continue
        try:
            told = compile(line, "block", "eval")
        except SyntaxError:
            exec(line, known)
        else:
            last = repr(eval(told, known))
    return found


class Examples(unittest.TestCase):
    def block(self, block, many):
        found = answers(block)
        self.assertEqual(len(found), many)
        for told, come_to in found:
            self.assertEqual(come_to, told)

    def test_section_3(self):
        self.block(NUMBERS, 3)

    def test_section_4(self):
        self.block(PROGRAMS, 3)

    def test_section_5(self):
        self.block(FLOWS, 4)

    def test_section_6(self):
        self.block(ROWS, 2)

    def test_section_7(self):
        self.block(SPANS, 5)

    def test_section_8(self):
        self.block(ALIKE, 4)

    def test_section_9(self):
        self.block(SEEN, 3)

    def test_section_10(self):
        self.block(MAKING, 2)

    def test_section_11(self):
        self.block(REWRITING, 2)

    def test_section_12(self):
        self.block(BENCHES, 3)

    def test_section_13(self):
        self.block(READING, 3)

    def test_section_14(self):
        self.block(MOVING, 3)

    def test_section_15(self):
        self.block(PIECES, 3)

    def test_section_16(self):
        self.block(PUTTING, 2)

    def test_section_17(self):
        self.block(BOOKS, 3)

    def test_section_18(self):
        self.block(EXCHANGE, 3)

    def test_section_19(self):
        self.block(SESSIONS, 4)

    def test_section_20(self):
        self.block(SCRIPTS, 2)

    def test_section_21(self):
        self.block(TEXTS, 4)


if __name__ == "__main__":
    unittest.main()
