"""Lines of books: their forms, readings among them, and what is told along them."""

from truestops.engines import is_known_sum, vector_of
from truestops.errors import InvalidReadings
from truestops.joints import Joints
from truestops.reading import question_at
from truestops.seats import is_change
from truestops.statements import ascending

# So many lists of readings are kept with a bench at most.
MOST_KEPT = 32


def is_seat_of(bench, mark, stop):
    return (mark, stop) in bench.passings.true_seats()


def is_line_with(word, value):
    return type(value) is tuple and len(value) == 5 and value[0] == word


def is_read_line(bench, value):
    """Whether any object is a line ("read", ..) of a bench, be it right or not."""
    if not is_line_with("read", value):
        return False
    _, mark, stop, wanted, rule = value
    if not is_seat_of(bench, mark, stop):
        return False
    prime = bench.rows().prime()
    if not is_known_sum(prime, wanted, bench.joints.variables(stop) + [""]):
        return False
    return is_known_sum(prime, rule, bench.joints.holders(mark) + [""])


def is_change_line(bench, value):
    """Whether any object is a line ("change", ..) of a bench, be it honest or not."""
    if not is_line_with("change", value):
        return False
    _, mark, stop, stir, change = value
    if not is_seat_of(bench, mark, stop) or not stir:
        return False
    prime = bench.rows().prime()
    if not is_change(prime, stir, bench.joints.variables(stop)):
        return False
    return is_change(prime, change, bench.joints.holders(mark))


def are_lines(bench, value):
    if type(value) is not list:
        return False
    return all([is_read_line(bench, line) or is_change_line(bench, line) for line in value])


def copy_line(line):
    word, mark, stop, first, second = line
    return (word, mark, stop, ascending(first), ascending(second))


def key_of(line):
    """What tells a line from all others, as a key of dictionaries."""
    _, mark, stop, first, second = line
    return (mark, stop, tuple(sorted(first.items())), tuple(sorted(second.items())))


def is_right(bench, line):
    """Whether a line ("read", ..) tells its sum in all runs."""
    _, mark, stop, wanted, rule = line
    return question_at(bench, mark, stop).is_rule(wanted, rule)


def joints_along(bench, readings):
    """The joint beats of a bench with the numbers of readings among what is told; kept with the bench."""
    if not readings:
        return bench.joints
    key = tuple([key_of(line) for line in readings])
    if key not in bench.told:
        if len(bench.told) >= MOST_KEPT:
            bench.told.clear()
        bench.told[key] = joints_with(bench, readings)
    return bench.told[key]


def joints_with(bench, readings):
    table = {}
    for _, mark, stop, wanted, rule in readings:
        mine = vector_of(wanted, bench.joints.variables(stop))
        theirs = vector_of(rule, bench.joints.holders(mark))
        table.setdefault((mark, stop), []).append((mine, theirs))
    return Joints(bench.program(), bench.rows(), bench.passings, table)


def require_readings(bench, readings):
    if type(readings) is not list or not all([is_read_line(bench, line) for line in readings]):
        raise InvalidReadings(readings)
    if not all([is_right(bench, line) for line in readings]):
        raise InvalidReadings(readings)
