"""Rewriting rows: without calls, with joined tails, without idle rows, with other boxes; and judges of all this."""

from truestops.alike import tour_of
from truestops.engines import require_engines
from truestops.errors import InvalidCount
from truestops.forms import is_count
from truestops.idling import idle_ones
from truestops.rowforms import PARTS_OF_ROWS
from truestops.rows import Rows, require_rows
from truestops.tours import lone_tour
from truestops.unrolling import Unrolling


def require_two(one, other):
    require_rows(one)
    require_rows(other)
    require_engines(one, other)


def is_beside(rows, value):
    """Whether any object is rows with the prime and the boxes of these."""
    return isinstance(value, Rows) and (value.prime(), value.boxes()) == (rows.prime(), rows.boxes())


def passed_in(rows, turn):
    """What the marks that are passed in a turn tell: their stops, and how many numbers are printed by then."""
    return [(rows.flow.stops_of(mark), many) for mark, _, many in turn.beat.passes]


def parting_going(one, other):
    """The first going of two rows in whose last beat they print or pass unlike, or None."""
    for going in tour_of(one, other).goings:
        if not going.alike:
            return going
        if going.fresh and passed_in(one, going.turns[0]) != passed_in(other, going.turns[1]):
            return going
    return None


def passes_alike(one, other):
    require_two(one, other)
    return parting_going(one, other) is None


def parting_passes(one, other):
    require_two(one, other)
    going = parting_going(one, other)
    return None if going is None else list(going.inputs)


def calls_opened(rows):
    require_rows(rows)
    unit = Unrolling(rows.prime(), rows.boxes(), rows.units()).unit()
    # With more living cells than the limit there may be no such rows: then the calls are left where they are.
    return Rows(rows.prime(), rows.boxes(), rows.units() if unit is None else {"main": unit})


def has_calls(rows):
    return any([row[0] == "call" for _, _, row in rows.flow.rows_of_units()])


def is_calls_opened(rows, value):
    require_rows(rows)
    return is_beside(rows, value) and not has_calls(value) and parting_going(rows, value) is None


def target_of(rows, at):
    """The row to which a row leads through `go` alone; all ends are one, and all backs."""
    ahead = at + 1
    while rows[ahead][0] == "go":
        ahead = rows[ahead][1]
    return -1 if rows[ahead][0] in ("end", "back") else ahead


def tail_of(rows, at):
    """What a row does and where it leads, the same for rows that are to be joined; None for rows that never are."""
    row = rows[at]
    if row[0] in ("mark", "go", "end", "back"):
        return None
    if row[0] == "pick":
        return ("pick",) + tuple(row[1])
    return row + (target_of(rows, at),)


def twins_of(rows):
    """The dictionary from each row of a unit that has an earlier one with the same tail to the first such one."""
    firsts = {}
    found = {}
    for at in range(len(rows)):
        tail = tail_of(rows, at)
        if tail is not None and firsts.setdefault(tail, at) != at:
            found[at] = firsts[tail]
    return found


def joined_rows(rows):
    """The rows of a unit in which each twin goes to the first one instead, as long as there are any."""
    twins = twins_of(rows)
    while twins:
        rows = [("go", twins[at]) if at in twins else row for at, row in enumerate(rows)]
        twins = twins_of(rows)
    return rows


def tails_joined(rows):
    require_rows(rows)
    units = rows.units()
    joined = {name: (units[name][0], joined_rows(units[name][1])) for name in units}
    return Rows(rows.prime(), rows.boxes(), joined)


def cells_of_units(rows):
    units = rows.units()
    return {name: units[name][0] for name in units}


def is_tails_joined(rows, value):
    require_rows(rows)
    if not is_beside(rows, value) or cells_of_units(value) != cells_of_units(rows):
        return False
    if any([twins_of(told) for _, told in value.units().values()]):
        return False
    return tour_of(rows, value).parting is None


def stops_passed(rows):
    """A dictionary of True for each stop that some run passes by a mark."""
    found = {}
    for going in lone_tour(rows.beats).goings:
        if going.fresh:
            for stops, _ in passed_in(rows, going.turns[0]):
                for stop in stops:
                    found[stop] = True
    return found


def lost_stops(one, other):
    require_two(one, other)
    kept = stops_passed(other)
    return sorted([stop for stop in stops_passed(one) if stop not in kept])


def idle_rows(rows):
    require_rows(rows)
    return idle_ones(rows)


def moved_row(row, places):
    """A row that leads to where the rows are now."""
    if row[0] == "go":
        return ("go", places[row[1]])
    if row[0] == "pick":
        return ("pick", [places[at] for at in row[1]])
    return row


def rows_without(rows, left_out):
    """The rows of a unit without some of them, by positions: what led to one leads to the row behind it."""
    places = []
    many = 0
    for at in range(len(rows)):
        places.append(many)
        many += 0 if at in left_out else 1
    return [moved_row(row, places) for at, row in enumerate(rows) if at not in left_out]


def idle_left_out(rows):
    require_rows(rows)
    idle = idle_ones(rows)
    units = rows.units()
    fewer = {}
    for name in units:
        left_out = [at for unit, at in idle if unit == name]
        fewer[name] = (units[name][0], rows_without(units[name][1], left_out))
    return Rows(rows.prime(), rows.boxes(), fewer)


def has_no_more_rows(rows, value):
    units, told = rows.units(), value.units()
    return list(units) == list(told) and all([len(told[name][1]) <= len(units[name][1]) for name in units])


def is_idle_left_out(rows, value):
    require_rows(rows)
    if not is_beside(rows, value) or not has_no_more_rows(rows, value):
        return False
    return parting_going(rows, value) is None and not idle_ones(value)


def row_called(row, order):
    """A row with each of its boxes called otherwise."""
    kinds = PARTS_OF_ROWS[row[0]]
    return (row[0],) + tuple([order[part] if kind == "box" else part for kind, part in zip(kinds, row[1:])])


def is_order(value, many):
    """Whether any object is a list of all counts below this one, each once."""
    return type(value) is list and all([is_count(at) for at in value]) and sorted(value) == list(range(many))


def boxes_called(rows, order):
    require_rows(rows)
    if not is_order(order, rows.boxes()):
        raise InvalidCount(order)
    units = rows.units()
    called = {name: (units[name][0], [row_called(row, order) for row in units[name][1]]) for name in units}
    return Rows(rows.prime(), rows.boxes(), called)
