"""Benches: a program beside rows that print alike, their marks, the stops and the order of these."""

from truestops.alike import tour_of
from truestops.engines import holders_there, is_known_sum, sum_of, vector_of
from truestops.errors import (
    InvalidBench,
    NeverPassed,
    NotAlike,
    OutOfOrder,
    Stray,
    Uneven,
    UnknownMark,
    UnknownStop,
    UnlikePrimes,
)
from truestops.forms import is_number
from truestops.joints import Joints
from truestops.lasts import last_beat
from truestops.passings import Passings
from truestops.programs import require_program
from truestops.rows import require_rows
from truestops.vectors import columns_of, meeting, product_of


class Bench:
    """A program and rows that never change. `passings` tells what their tour shows of the marks, `joints` how both go
    from asking to asking side by side, `told` and `known` likewise for readings, `pasts` the questions for what was,
    `lasts` the last beats of runs, `fits` the states that go on alike; all these are found out once."""

    def __init__(self, program, rows):
        require_program(program)
        require_rows(rows)
        if rows.prime() != program.prime():
            raise UnlikePrimes(rows)
        tour = tour_of(program, rows)
        if tour.parting is not None:
            raise NotAlike(list(tour.parting.inputs))
        self._program = program
        self._rows = rows
        self.passings = Passings(rows.flow, tour)
        self.joints = Joints(program, rows, self.passings, {})
        self.told = {}
        self.known = {}
        self.pasts = {}
        self.lasts = {}
        self.fits = {}

    def program(self):
        return self._program

    def rows(self):
        return self._rows

    def __eq__(self, other):
        if not isinstance(other, Bench):
            return False
        return (self._program, self._rows) == (other._program, other._rows)


def require_bench(bench):
    if not isinstance(bench, Bench):
        raise InvalidBench(bench)


def require_ordered(bench):
    """The errors of a bench whose marks have to be in order."""
    require_bench(bench)
    if bench.passings.turned() is not None:
        raise OutOfOrder(bench)


def require_mark(bench, mark):
    require_bench(bench)
    if mark not in list(bench.rows().flow.passing_places):
        raise UnknownMark(mark)


def require_true_mark(bench, mark):
    """The errors of a mark that has to be passed, and true."""
    require_mark(bench, mark)
    word = bench.passings.word(mark)[0]
    if word == "never":
        raise NeverPassed(mark)
    if word == "stray":
        raise Stray(mark)
    if word == "uneven":
        raise Uneven(mark)


def require_seat(bench, mark, stop):
    """The errors of a mark and one of its stops that some run passes with it."""
    require_true_mark(bench, mark)
    if stop not in bench.passings.stops_with(mark):
        raise UnknownStop(stop)


def marks(bench):
    require_bench(bench)
    return sorted(bench.rows().flow.passing_places)


def stops_of(bench, mark):
    require_mark(bench, mark)
    return sorted(bench.rows().flow.stops_of(mark))


def mark_word(bench, mark):
    require_mark(bench, mark)
    word, inputs = bench.passings.word(mark)
    return (word, None if inputs is None else list(inputs))


def out_of_order(bench):
    require_bench(bench)
    turned = bench.passings.turned()
    return None if turned is None else (list(turned[0]), turned[1], turned[2])


def mark_keys(bench, mark):
    """The keys of rules at a mark: the holders that live there, ascending, and 1 behind them."""
    return holders_there(bench.rows(), mark) + [""]


def runs_and_aims(bench, mark, stop):
    """The runs to a mark, and what a where rule of the stop has to be in each of them: 1 or 0."""
    runs = []
    aims = []
    for told in bench.passings.stops_with(mark):
        found = bench.passings.runs_to(mark, told)
        runs.extend(found)
        aims.extend([int(told == stop)] * len(found))
    return runs, aims


def where_rule(bench, mark, stop):
    require_seat(bench, mark, stop)
    runs, aims = runs_and_aims(bench, mark, stop)
    return rule_for(bench, mark, runs, aims)


def rule_for(bench, mark, runs, aims):
    """Any rule that has these numbers in these runs, or None."""
    keys = mark_keys(bench, mark)
    vector = meeting(bench.rows().prime(), [run.holders + [1] for run in runs], aims, len(keys))
    return None if vector is None else sum_of(vector, keys)


def is_rule_for(bench, mark, runs, aims, value):
    """Whether any object is a rule at a mark that has these numbers in these runs."""
    keys = mark_keys(bench, mark)
    prime = bench.rows().prime()
    if not is_known_sum(prime, value, keys):
        return False
    factors = vector_of(value, keys)
    return [product_of(prime, factors, run.holders + [1]) for run in runs] == aims


def is_where_rule(bench, mark, stop, value):
    require_seat(bench, mark, stop)
    runs, aims = runs_and_aims(bench, mark, stop)
    return is_rule_for(bench, mark, runs, aims, value)


def factors_against(prime, runs, aims):
    """Factors of runs by which their holders and 1 add up to 0, and the aims to 1. There have to be some."""
    columns = columns_of([run.holders + [1] for run in runs], len(runs[0].holders) + 1)
    return meeting(prime, columns + [aims], [0] * len(columns) + [1], len(runs))


def where_point(bench, mark, stop):
    if where_rule(bench, mark, stop) is not None:
        return None
    prime = bench.rows().prime()
    runs, aims = runs_and_aims(bench, mark, stop)
    mine = []
    others = []
    for run, aim, factor in zip(runs, aims, factors_against(prime, runs, aims)):
        if factor and aim:
            mine.append((list(run.inputs), factor))
        elif factor:
            others.append((list(run.inputs), prime - factor))
    return (mine, others)


def weighed(bench, mark, stop, told, is_mine):
    """What the holders, and 1, add up to by the factors of a list of runs to a mark, all at the stop, or all at other
    ones; None if it is no such list."""
    prime = bench.rows().prime()
    total = [0] * len(mark_keys(bench, mark))
    if type(told) is not list:
        return None
    for item in told:
        if type(item) is not tuple or len(item) != 2 or not is_number(prime, item[1]):
            return None
        last = last_beat(bench, item[0])
        holders = None if last is None else last.holders(mark)
        if holders is None or (last.stop_of(mark) == stop) != is_mine:
            return None
        total = [(a + item[1] * b) % prime for a, b in zip(total, holders + [1])]
    return total


def is_where_point(bench, mark, stop, value):
    require_seat(bench, mark, stop)
    if type(value) is not tuple or len(value) != 2:
        return False
    mine = weighed(bench, mark, stop, value[0], True)
    others = weighed(bench, mark, stop, value[1], False)
    return mine is not None and mine == others and mine[-1] == 1
