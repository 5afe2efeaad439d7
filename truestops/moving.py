"""Moving: which stirs of the variables can be carried out by changes of the rows, and papers where none can."""

from truestops.benches import require_seat, require_true_mark
from truestops.engines import holders_there, require_list, require_stir, sum_of, vector_of
from truestops.errors import InvalidChange, InvalidInputs, InvalidNumber, InvalidSum, UnknownStop
from truestops.forms import is_number, is_vector_of, letter_fits
from truestops.guides import Guide
from truestops.hulls import Hull
from truestops.seats import Equation, Seat, bar_by, change_by, is_change, is_change_by, told_bar
from truestops.vectors import meeting, product_of


def require_stir_at(bench, stop, stir):
    require_stir(bench.program().prime(), stir, holders_there(bench.program(), stop))


def require_move(bench, mark, stop, stir):
    require_seat(bench, mark, stop)
    require_stir_at(bench, stop, stir)


def change_for(bench, mark, stop, stir):
    require_move(bench, mark, stop, stir)
    return Seat(bench.joints, mark, stop).change_for(stir)


def is_change_for(bench, mark, stop, stir, value):
    require_move(bench, mark, stop, stir)
    return Seat(bench.joints, mark, stop).is_change_for(stir, value)


def movable_stirs(bench, mark, stop):
    require_seat(bench, mark, stop)
    return Seat(bench.joints, mark, stop).movable()


def why_unmoved(bench, mark, stop, stir):
    require_move(bench, mark, stop, stir)
    seat = Seat(bench.joints, mark, stop)
    return told_bar(seat.modulus, seat.equations(stir), len(seat.holders))


def has_places_twice(value):
    """Whether, of tuples, two are the same but for their last things."""
    places = [item[:-1] for item in value]
    return any([place in places[:at] for at, place in enumerate(places)])


def is_why_unmoved(bench, mark, stop, stir, value):
    require_move(bench, mark, stop, stir)
    return Seat(bench.joints, mark, stop).is_bar(stir, value) and not has_places_twice(value)


def require_stirs(bench, mark, stirs):
    """The errors of a dictionary from stops of a mark to stirs."""
    require_true_mark(bench, mark)
    if type(stirs) is not dict or not stirs:
        raise InvalidSum(stirs)
    passed = bench.passings.stops_with(mark)
    for stop, stir in stirs.items():
        if stop not in passed:
            raise UnknownStop(stop)
        require_stir_at(bench, stop, stir)


def common_equations(bench, mark, stirs):
    """The equations of all stops, in ascending order of these: the order of the dictionary means nothing."""
    found = []
    for stop in sorted(stirs):
        found.extend(Seat(bench.joints, mark, stop).equations(stirs[stop]))
    return found


def common_change(bench, mark, stirs):
    require_stirs(bench, mark, stirs)
    return change_by(bench.rows().prime(), common_equations(bench, mark, stirs), bench.joints.holders(mark))


def is_common_change(bench, mark, stirs, value):
    require_stirs(bench, mark, stirs)
    equations = common_equations(bench, mark, stirs)
    return is_change_by(bench.rows().prime(), equations, bench.joints.holders(mark), value)


def why_no_common(bench, mark, stirs):
    require_stirs(bench, mark, stirs)
    width = len(bench.joints.holders(mark))
    bar = bar_by(bench.rows().prime(), common_equations(bench, mark, stirs), width)
    if bar is None:
        return None
    return [(one.stop, list(one.seen.letters), one.seen.position, factor) for one, factor in bar]


def is_why_no_common(bench, mark, stirs, value):
    require_stirs(bench, mark, stirs)
    if type(value) is not list or not all([type(item) is tuple and len(item) == 4 for item in value]):
        return False
    if not all([item[0] in list(stirs) for item in value]) or has_places_twice(value):
        return False
    prime = bench.rows().prime()
    total = [0] * (len(bench.joints.holders(mark)) + 1)
    for stop in sorted(stirs):
        mine = [item[1:] for item in value if item[0] == stop]
        told = Seat(bench.joints, mark, stop).weighed(stirs[stop], mine)
        if told is None:
            return False
        total = [(a + b) % prime for a, b in zip(total, told)]
    return total == [0] * (len(total) - 1) + [1]


def require_list_of_stirs(bench, stop, stirs):
    if type(stirs) is not list:
        raise InvalidSum(stirs)
    for stir in stirs:
        require_stir_at(bench, stop, stir)


def require_knobs(bench, mark, stop, stir, knobs_told):
    require_move(bench, mark, stop, stir)
    require_list_of_stirs(bench, stop, knobs_told)


def equations_with_knobs(seat, stir, knobs_told):
    """The equations of a seat in which the knobs stand behind the rows' holders."""
    amounts = [vector_of(knob, seat.variables) for knob in knobs_told]
    found = []
    for equation in seat.equations(stir):
        mine, theirs = seat.parted(equation.seen.factors)
        raised = [product_of(seat.modulus, mine, vector) for vector in amounts]
        found.append(Equation(equation.stop, equation.seen, theirs + raised, equation.due))
    return found


def change_with_knobs(bench, mark, stop, stir, knobs_told):
    require_knobs(bench, mark, stop, stir, knobs_told)
    seat = Seat(bench.joints, mark, stop)
    many = len(seat.holders)
    equations = equations_with_knobs(seat, stir, knobs_told)
    rows = [equation.factors for equation in equations]
    vector = meeting(seat.modulus, rows, [equation.due for equation in equations], many + len(knobs_told))
    return None if vector is None else (sum_of(vector[:many], seat.holders), vector[many:])


def is_change_with_knobs(bench, mark, stop, stir, knobs_told, value):
    require_knobs(bench, mark, stop, stir, knobs_told)
    if type(value) is not tuple or len(value) != 2:
        return False
    seat = Seat(bench.joints, mark, stop)
    change, factors = value
    if not is_change(seat.modulus, change, seat.holders):
        return False
    if not is_vector_of(seat.modulus, factors, len(knobs_told)):
        return False
    amounts = vector_of(change, seat.holders) + factors
    equations = equations_with_knobs(seat, stir, knobs_told)
    return all([product_of(seat.modulus, equation.factors, amounts) == equation.due for equation in equations])


def require_knobs_for(bench, mark, stop, stirs):
    require_seat(bench, mark, stop)
    require_list_of_stirs(bench, stop, stirs)


class Shows:
    """What is shown at a seat in all numbers together: by changes, and by knobs that are taken in one by one."""

    def __init__(self, seat):
        self._seat = seat
        self._hull = Hull(seat.modulus)
        parts = [seat.parted(seen.factors) for seen in seat.seen()]
        self._mine = [mine for mine, _ in parts]
        for at in range(len(seat.holders)):
            self._hull.take_in([theirs[at] for _, theirs in parts])

    def _vector(self, stir):
        amounts = vector_of(stir, self._seat.variables)
        return [product_of(self._seat.modulus, mine, amounts) for mine in self._mine]

    def take_in(self, stir):
        """Takes a knob in and returns whether it shows what could not be shown yet."""
        return self._hull.take_in(self._vector(stir))

    def holds(self, stir):
        return self._hull.holds(self._vector(stir))


def knobs_needed(bench, mark, stop, stirs):
    """As few of the stirs as carry out all of them, if they are knobs."""
    shows = Shows(Seat(bench.joints, mark, stop))
    found = []
    for stir in stirs:
        if shows.take_in(stir):
            found.append(stir)
    return found


def fewest_knobs(bench, mark, stop, stirs):
    require_knobs_for(bench, mark, stop, stirs)
    return len(knobs_needed(bench, mark, stop, stirs))


def knobs(bench, mark, stop, stirs):
    require_knobs_for(bench, mark, stop, stirs)
    return [{holder: stir[holder] for holder in sorted(stir)} for stir in knobs_needed(bench, mark, stop, stirs)]


def is_stir_at(bench, stop, value):
    return is_change(bench.program().prime(), value, holders_there(bench.program(), stop))


def are_knobs(bench, mark, stop, stirs, value):
    require_knobs_for(bench, mark, stop, stirs)
    if type(value) is not list or not all([is_stir_at(bench, stop, knob) for knob in value]):
        return False
    if len(value) != len(knobs_needed(bench, mark, stop, stirs)):
        return False
    shows = Shows(Seat(bench.joints, mark, stop))
    for knob in value:
        shows.take_in(knob)
    return all([shows.holds(stir) for stir in stirs])


def require_moved_run(bench, mark, stop, stir, change, amount):
    require_move(bench, mark, stop, stir)
    if not is_change(bench.rows().prime(), change, bench.joints.holders(mark)):
        raise InvalidChange(change)
    if not is_number(bench.rows().prime(), amount):
        raise InvalidNumber(amount)


class Moved:
    """A program and rows that run side by side, and are stirred where a mark is first passed at a stop."""

    def __init__(self, bench, mark, stop):
        self.program = Guide(bench.program())
        self.rows = Guide(bench.rows())
        self.done = False
        self._mark = mark
        self._stop = stop

    def look(self, stir, change, amount):
        if not self.done and self.rows.turn.comes_by(self._mark) and self.program.turn.comes_by(self._stop):
            self.program.come_to(self._stop, stir, amount)
            self.rows.come_to(self._mark, change, amount)
            self.done = True

    def asked(self):
        return self.program.turn.beat.asked

    def answer(self, letter):
        self.program.answer(letter)
        self.rows.answer(letter)


def moved_run(bench, mark, stop, stir, change, amount, inputs):
    require_moved_run(bench, mark, stop, stir, change, amount)
    require_list(inputs)
    both = Moved(bench, mark, stop)
    both.look(stir, change, amount)
    for position, letter in enumerate(inputs):
        if not letter_fits(bench.rows().prime(), both.asked(), letter):
            raise InvalidInputs(position)
        both.answer(letter)
        both.look(stir, change, amount)
    return (both.program.all_printed(), both.rows.all_printed()) if both.done else None
