"""Moves by pieces: a change at a mark, and further ones at the true marks behind it."""

from truestops.benches import require_ordered, require_seat
from truestops.engines import require_list, require_stir, sum_of, vector_of
from truestops.errors import InvalidInputs
from truestops.forms import is_count, is_number, is_stir
from truestops.ladders import Cut, ladders_of
from truestops.seats import Equation, change_by, is_change_by
from truestops.sights import beats_along
from truestops.vectors import added_up, crossing, product_of


def require_place(bench, mark, stop):
    require_ordered(bench)
    require_seat(bench, mark, stop)


def require_piece(bench, mark, stop, stir):
    require_place(bench, mark, stop)
    require_stir(bench.rows().prime(), stir, bench.joints.variables(stop))


def sums_at(bench, mark, stop):
    """The factors of all sums that are 0 for what can be moved by pieces."""
    return [step.factors for step in ladders_of(bench.joints).steps_of((mark, stop))]


def piece_stirs(bench, mark, stop):
    require_place(bench, mark, stop)
    variables = bench.joints.variables(stop)
    vectors = crossing(bench.rows().prime(), sums_at(bench, mark, stop), len(variables))
    return [sum_of(vector, variables) for vector in vectors]


def is_moved(bench, mark, stop, stir):
    amounts = vector_of(stir, bench.joints.variables(stop))
    return not any([product_of(bench.rows().prime(), factors, amounts) for factors in sums_at(bench, mark, stop)])


def by_pieces(bench, mark, stop, stir):
    require_piece(bench, mark, stop, stir)
    return is_moved(bench, mark, stop, stir)


def equations_ahead(bench, mark, stop, stir):
    """What a first piece has to show in the numbers ahead of the next true mark. What is later asks nothing of it, but
    has a due that no change meets if the stir cannot be moved."""
    variables = bench.joints.variables(stop)
    amounts = vector_of(stir, variables)
    many = len(variables)
    found = []
    for part in ladders_of(bench.joints).parts_of((mark, stop)):
        due = product_of(bench.rows().prime(), part.vector[:many], amounts)
        found.append(Equation(stop, part, part.vector[many:], due))
    return found


def first_piece(bench, mark, stop, stir):
    require_piece(bench, mark, stop, stir)
    equations = equations_ahead(bench, mark, stop, stir)
    return change_by(bench.rows().prime(), equations, bench.joints.holders(mark))


def is_first_piece(bench, mark, stop, stir, value):
    require_piece(bench, mark, stop, stir)
    equations = equations_ahead(bench, mark, stop, stir)
    return is_change_by(bench.rows().prime(), equations, bench.joints.holders(mark), value)


def next_marks(bench, mark, stop):
    require_place(bench, mark, stop)
    ladders = ladders_of(bench.joints)
    known = {(mark, stop): True}
    waiting = [(mark, stop)]
    found = {}
    while waiting:
        place = waiting.pop()
        for _, cut in ladders.cuts_of(place):
            if cut.passed is not None:
                found[cut.next_seat()] = True
            elif cut.leads_on() and cut.beat.place not in known:
                known[cut.beat.place] = True
                waiting.append(cut.beat.place)
    return sorted(found)


class Way:
    """The way from a seat along letters, all of which have to fit, up to the next true mark, if one is passed."""

    def __init__(self, bench, seat, letters):
        self.modulus = bench.rows().prime()
        self.passed = None
        self._cuts = []
        for at, beat in enumerate(beats_along(bench.joints, seat, letters)):
            if self.passed is None:
                self._cuts.append(Cut(beat, at == 0))
                self.passed = self._cuts[-1].passed

    def seat(self):
        return None if self.passed is None else (self.passed.mark, self.passed.stop)

    def drawn_back(self, at, vector):
        """A joint vector of the beat at a position, by the holders at the seat."""
        for cut in reversed(self._cuts[:at]):
            vector = added_up(self.modulus, cut.beat.after, vector, cut.beat.width)
        return vector

    def print_at(self, position):
        """The joint vector of the number at a position ahead of the next true mark, or None."""
        for at, cut in enumerate(self._cuts):
            if position < len(cut.prints):
                return self.drawn_back(at, cut.prints[position])
            position -= len(cut.prints)
        return None

    def variables_passed(self, wanted):
        """The joint vector of what a sum of the variables at the next true mark is."""
        beat = self._cuts[-1].beat
        vector = added_up(self.modulus, self.passed.variables, wanted, beat.mine.width)
        return self.drawn_back(len(self._cuts) - 1, vector + [0] * beat.theirs.width)


def way_along(bench, seat, letters):
    """The way along letters, or None if any object is no list of letters that fit."""
    if type(letters) is not list:
        return None
    try:
        return Way(bench, seat, letters)
    except InvalidInputs:
        return None


def carried(bench, mark, stop, stir, letters):
    require_piece(bench, mark, stop, stir)
    require_list(letters)
    way = Way(bench, (mark, stop), letters)
    if way.passed is None:
        return None
    amounts = vector_of(stir, bench.joints.variables(stop))
    variables = bench.joints.variables(way.passed.stop)
    told = []
    for at in range(len(variables)):
        unit = [int(at == place) for place in range(len(variables))]
        told.append(product_of(way.modulus, way.variables_passed(unit), amounts))
    return (way.passed.mark, way.passed.stop, sum_of(told, variables))


def told_part(part, factor, places):
    """A part as its tuple; `places` leads the steps that are told to their positions."""
    number = places[part.number] if part.word == "later" else part.number
    return (part.word, list(part.letters), number, factor)


def steps_below(ladders, at):
    """The ascending list of the positions of a step and all those on which it rests."""
    found = {at: True}
    waiting = [at]
    while waiting:
        told = waiting.pop()
        for part, _ in ladders.steps[told].parts:
            if part.word == "later" and part.number not in found:
                found[part.number] = True
                waiting.append(part.number)
    return sorted(found)


def told_ladder(bench, ladders, last):
    """The list of steps, as tuples, that ends with one."""
    below = steps_below(ladders, last)
    places = {at: place for place, at in enumerate(below)}
    found = []
    for at in below:
        step = ladders.steps[at]
        parts = [told_part(part, factor, places) for part, factor in step.parts]
        wanted = sum_of(step.factors, bench.joints.variables(step.seat[1]))
        found.append((step.seat[0], step.seat[1], wanted, parts))
    return found


def piece_ladder(bench, mark, stop, stir):
    require_piece(bench, mark, stop, stir)
    ladders = ladders_of(bench.joints)
    amounts = vector_of(stir, bench.joints.variables(stop))
    for at, step in enumerate(ladders.steps):
        if step.seat == (mark, stop) and product_of(bench.rows().prime(), step.factors, amounts):
            return told_ladder(bench, ladders, at)
    return None


class LadderJudge:
    """Judges steps one by one; `known` are the seats and the factors of those that add up so far."""

    def __init__(self, bench):
        self.bench = bench
        self.modulus = bench.rows().prime()
        self.known = []

    def take_in(self, value):
        """Takes any object in and returns whether it is a step that adds up."""
        if type(value) is not tuple or len(value) != 4:
            return False
        mark, stop, wanted, parts = value
        if (mark, stop) not in self.bench.passings.true_seats():
            return False
        variables = self.bench.joints.variables(stop)
        if not is_stir(self.modulus, wanted) or not all([name in variables for name in wanted]):
            return False
        if type(parts) is not list:
            return False
        total = [0] * (len(variables) + len(self.bench.joints.holders(mark)))
        for part in parts:
            vector = self._vector_of((mark, stop), part)
            if vector is None:
                return False
            total = [(a + b) % self.modulus for a, b in zip(total, vector)]
        factors = vector_of(wanted, variables)
        self.known.append(((mark, stop), factors))
        return total == factors + [0] * (len(total) - len(factors))

    def _vector_of(self, seat, part):
        """What a part tells, so many times as its factor says; None if it is none."""
        if type(part) is not tuple or len(part) != 4 or not is_number(self.modulus, part[3]):
            return None
        word, letters, number, factor = part
        way = way_along(self.bench, seat, letters)
        if way is None or not is_count(number):
            return None
        vector = None
        if word == "print":
            vector = way.print_at(number)
        elif word == "later" and number < len(self.known) and self.known[number][0] == way.seat():
            vector = way.variables_passed(self.known[number][1])
        return None if vector is None else [factor * n % self.modulus for n in vector]


def is_piece_ladder(bench, mark, stop, stir, value):
    require_piece(bench, mark, stop, stir)
    if type(value) is not list or not value:
        return False
    judge = LadderJudge(bench)
    for step in value:
        if not judge.take_in(step):
            return False
    seat, factors = judge.known[-1]
    amounts = vector_of(stir, bench.joints.variables(stop))
    return seat == (mark, stop) and product_of(judge.modulus, factors, amounts) != 0
