"""Books of lines that tell how variables are read and moved at marks: true on all courses, or with one that lies."""

from truestops.benches import require_ordered, require_seat
from truestops.courses import Course
from truestops.engines import require_known, vector_of
from truestops.errors import InvalidBook, InvalidInputs, InvalidLines, InvalidSum
from truestops.forms import is_stir
from truestops.lines import (
    are_lines,
    copy_line,
    is_change_line,
    is_right,
    joints_along,
    require_readings,
)
from truestops.searches import Search
from truestops.seats import Seat, told_bar
from truestops.vectors import product_of


class Book:
    """Lines of a bench that never change."""

    def __init__(self, bench, lines):
        require_ordered(bench)
        if not are_lines(bench, lines):
            raise InvalidLines(lines)
        self._bench = bench
        self._lines = [copy_line(line) for line in lines]

    def bench(self):
        return self._bench

    def lines(self):
        return [copy_line(line) for line in self._lines]

    def __eq__(self, other):
        if not isinstance(other, Book):
            return False
        return (self._bench, self._lines) == (other._bench, other._lines)


def require_book(book):
    if not isinstance(book, Book):
        raise InvalidBook(book)


def require_bench_and_readings(bench, readings):
    require_ordered(bench)
    require_readings(bench, readings)


def seat_along(bench, readings, mark, stop):
    """A seat with the numbers of readings among what is told."""
    return Seat(joints_along(bench, readings), mark, stop)


def is_honest_line(bench, readings, line):
    _, mark, stop, stir, change = line
    return seat_along(bench, readings, mark, stop).is_change_for(stir, change)


def is_honest(bench, readings, line):
    require_bench_and_readings(bench, readings)
    if not is_change_line(bench, line):
        raise InvalidLines(line)
    return is_honest_line(bench, readings, line)


def require_honest(bench, readings, mark, stop, stir):
    require_bench_and_readings(bench, readings)
    require_seat(bench, mark, stop)
    if not is_stir(bench.rows().prime(), stir) or not stir:
        raise InvalidSum(stir)
    require_known(stir, bench.joints.variables(stop))


def honest_change(bench, readings, mark, stop, stir):
    require_honest(bench, readings, mark, stop, stir)
    return seat_along(bench, readings, mark, stop).change_for(stir)


def honest_stirs(bench, readings, mark, stop):
    require_bench_and_readings(bench, readings)
    require_seat(bench, mark, stop)
    return seat_along(bench, readings, mark, stop).movable()


def why_not_honest(bench, readings, mark, stop, stir):
    require_honest(bench, readings, mark, stop, stir)
    seat = seat_along(bench, readings, mark, stop)
    return told_bar(seat.modulus, seat.equations(stir), len(seat.holders))


def is_why_not_honest(bench, readings, mark, stop, stir, value):
    require_honest(bench, readings, mark, stop, stir)
    return seat_along(bench, readings, mark, stop).is_bar(stir, value)


def walked(book, course):
    require_book(book)
    if type(course) is not list:
        raise InvalidInputs(course)
    going = Course(book.bench(), book.lines())
    for position, command in enumerate(course):
        if not going.take_in(command):
            raise InvalidInputs(position)
    going.tell(None)
    return going.told


def is_lying(book, value):
    require_book(book)
    if type(value) is not list:
        return False
    going = Course(book.bench(), book.lines())
    if not all([going.take_in(command) for command in value]):
        return False
    going.tell(None)
    return any([told[-1] != told[-2] for told in going.told])


def read_lines_of(book):
    return [line for line in book.lines() if line[0] == "read"]


def wrong_inputs(bench, line):
    """The least inputs at which a line ("read", ..) tells another number than its sum, or None."""
    _, mark, stop, wanted, rule = line
    mine = vector_of(wanted, bench.joints.variables(stop) + [""])
    theirs = vector_of(rule, bench.joints.holders(mark) + [""])
    prime = bench.rows().prime()
    for run in bench.passings.runs_to(mark, stop):
        if product_of(prime, mine, run.variables + [1]) != product_of(prime, theirs, run.holders + [1]):
            return list(run.inputs)
    return None


def lying_move(bench, readings, at, line):
    """A shortest course that lies by one move of a line, as long as all readings are right; None if there is none."""
    _, mark, stop, stir, change = line
    prime = bench.rows().prime()
    raised = vector_of(stir, bench.joints.variables(stop))
    lowered = [-factor % prime for factor in vector_of(change, bench.joints.holders(mark))]
    hit = Search(joints_along(bench, readings), (mark, stop), raised + lowered).hit
    if hit is None:
        return None
    return list(bench.passings.runs_to(mark, stop)[0].inputs) + [("move", at, 1)] + hit[0]


def is_true(book):
    require_book(book)
    readings = read_lines_of(book)
    if not all([is_right(book.bench(), line) for line in readings]):
        return False
    changes = [line for line in book.lines() if line[0] == "change"]
    return all([is_honest_line(book.bench(), readings, line) for line in changes])


def lying_course(book):
    require_book(book)
    readings = read_lines_of(book)
    courses = [wrong_inputs(book.bench(), line) for line in readings]
    # A course with a move that is shorter than all of these comes by right readings alone, so the move is to blame.
    for at, line in enumerate(book.lines()):
        if line[0] == "change":
            courses.append(lying_move(book.bench(), readings, at, line))
    shortest = None
    for course in courses:
        if course is not None and (shortest is None or len(course) < len(shortest)):
            shortest = course
    return shortest


def greatest_book(bench, readings):
    require_bench_and_readings(bench, readings)
    lines = list(readings)
    for mark, stop in bench.passings.true_seats():
        seat = seat_along(bench, readings, mark, stop)
        lines.extend([("change", mark, stop, stir, seat.change_for(stir)) for stir in seat.movable()])
    return Book(bench, lines)


def joined(one, other):
    require_book(one)
    require_book(other)
    if not one.bench() == other.bench():
        raise InvalidBook(other)
    return Book(one.bench(), one.lines() + other.lines())
