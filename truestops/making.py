"""Making rows of programs, and what is missing where rows are not made of one."""

from truestops.beats import unit_vector
from truestops.benches import Bench, out_of_order, require_bench
from truestops.compiling import BOXES, reckoning, units_of
from truestops.engines import is_known_sum, vector_of
from truestops.errors import InvalidCount, InvalidSum, NotAlike, UnknownStop
from truestops.forms import is_count, require_prime
from truestops.programs import require_program
from truestops.reading import question_at, variables_at
from truestops.rowflows import change_of, name_of_box, name_of_cell
from truestops.rowforms import MOST_CELLS, Sizes
from truestops.rows import Rows
from truestops.vectors import added_up

STRAIGHT = ("set", "copy", "times", "more", "add", "take")
STRAIGHT_BOXES = 2


def made(program):
    require_program(program)
    units = units_of(program.shared(), program.procedures(), program.body())
    # Beyond the limits there may be no such rows: then these only end.
    return Rows(program.prime(), BOXES, {"main": (0, [("end",)])} if units is None else units)


def stops_some_run_passes(bench):
    """The ascending list of the stops of a bench's program that some run passes."""
    found = {}
    for going in bench.passings.tour.goings:
        if going.fresh:
            for stop, _, _ in going.turns[0].beat.passes:
                found[stop] = True
    return sorted(found)


def own_marks(bench, stop):
    """The true marks that have a stop alone."""
    flow = bench.rows().flow
    return [mark for mark in flow.passing_places if flow.stops_of(mark) == [stop] and bench.passings.is_true(mark)]


def unread_at(bench, mark, stop):
    """The variables in sight at a stop, ascending, that have no rule at a mark."""
    known = dict(zip(variables_at(bench, stop), question_at(bench, mark, stop).are_known()))
    holders = sorted(bench.program().flow.sights[stop].values())
    return [holder for holder in holders if not known[holder]]


def lets_read_all(bench, stop):
    return any([not unread_at(bench, mark, stop) for mark in own_marks(bench, stop)])


def is_made(program, value):
    require_program(program)
    if not isinstance(value, Rows) or (value.prime(), value.boxes()) != (program.prime(), BOXES):
        return False
    try:
        bench = Bench(program, value)
    except NotAlike:
        return False
    if out_of_order(bench) is not None:
        return False
    return all([lets_read_all(bench, stop) for stop in stops_some_run_passes(bench)])


def bare_stops(bench):
    require_bench(bench)
    return [stop for stop in stops_some_run_passes(bench) if not own_marks(bench, stop)]


def unread(bench, stop):
    require_bench(bench)
    if stop not in stops_some_run_passes(bench):
        raise UnknownStop(stop)
    holders = sorted(bench.program().flow.sights[stop].values())
    for mark in own_marks(bench, stop):
        missing = unread_at(bench, mark, stop)
        holders = [holder for holder in holders if holder in missing]
    return holders


def keys_of_cells(cells):
    return [name_of_cell(0, cell) for cell in range(cells)] + [""]


def require_straight(prime, cells, wanted):
    require_prime(prime)
    if not is_count(cells) or cells > MOST_CELLS:
        raise InvalidCount(cells)
    if not is_known_sum(prime, wanted, keys_of_cells(cells)):
        raise InvalidSum(wanted)


def straight(prime, cells, wanted):
    require_straight(prime, cells, wanted)
    places = {name_of_cell(0, cell): ("take", cell) for cell in range(cells)}
    return reckoning(0, 1, wanted, places)


def are_straight(prime, cells, wanted, value):
    require_straight(prime, cells, wanted)
    sizes = Sizes(prime, STRAIGHT_BOXES, cells, cells)
    if type(value) is not list or not all([sizes.is_row(row) and row[0] in STRAIGHT for row in value]):
        return False
    boxes = [name_of_box(box) for box in range(STRAIGHT_BOXES)]
    keys = boxes + keys_of_cells(cells)
    vectors = {key: unit_vector(len(keys), at) for at, key in enumerate(keys)}
    for row in value:
        holder, told = change_of(prime, row, 0)
        vectors[holder] = added_up(prime, [vectors[key] for key in told], list(told.values()), len(keys))
    return vectors[boxes[0]] == vector_of(wanted, keys)
