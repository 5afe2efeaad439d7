"""States of a seat that fit: the program may be so in some mixture of runs, and both print alike from there on.

They are all mixtures of finitely many: one state of a run, and others that go from it along what shows alike in both.
"""

from truestops.engines import vector_of
from truestops.hulls import Hull
from truestops.passings import Run
from truestops.reading import Question
from truestops.seats import Seat
from truestops.spans import kept_numbers
from truestops.vectors import added_up, crossing, product_of


def less(prime, one, other):
    return [(a - b) % prime for a, b in zip(one, other)]


class Fitting:
    """The states of a seat (bench, mark, stop) that fit."""

    def __init__(self, bench, mark, stop):
        self.bench = bench
        self.modulus = bench.rows().prime()
        self.seat = Seat(bench.joints, mark, stop)
        self.run = bench.passings.runs_to(mark, stop)[0]
        self._runs = None
        self._kept = [numbers for _, numbers in kept_numbers(bench.program(), stop)]

    def prints_alike(self, variables, holders):
        """Whether all is printed alike from these numbers, as from those of a run."""
        raised = less(self.modulus, variables, self.run.variables)
        changed = less(self.modulus, holders, self.run.holders)
        for seen in self.seat.seen():
            mine, theirs = self.seat.parted(seen.factors)
            if product_of(self.modulus, mine, raised) != product_of(self.modulus, theirs, changed):
                return False
        return True

    def holds(self, state):
        """Whether a state of the seat fits."""
        variables, holders = vector_of(state, self.seat.variables), vector_of(state, self.seat.holders)
        hull = Hull(self.modulus)
        for numbers in self._kept:
            hull.take_in(numbers + [1])
        return hull.holds(variables + [1]) and self.prints_alike(variables, holders)

    def directions(self):
        """Tuples (raised, changed) of which all ways are put together that lead from one state that fits to others."""
        ways = [less(self.modulus, numbers, self._kept[0]) for numbers in self._kept[1:]]
        vectors = []
        for seen in self.seat.seen():
            mine, theirs = self.seat.parted(seen.factors)
            raised = [product_of(self.modulus, mine, way) for way in ways]
            vectors.append(raised + [-factor % self.modulus for factor in theirs])
        many = len(ways)
        width = len(self.seat.variables)
        found = crossing(self.modulus, vectors, many + len(self.seat.holders))
        return [(added_up(self.modulus, ways, vector[:many], width), vector[many:]) for vector in found]

    def base_runs(self):
        """States that fit of which all others are mixtures. No inputs lead to them."""
        if self._runs is None:
            self._runs = self._all_base_runs()
        return self._runs

    def _all_base_runs(self):
        found = [Run(None, self.run.variables, self.run.holders)]
        for raised, changed in self.directions():
            variables = [(a + b) % self.modulus for a, b in zip(self.run.variables, raised)]
            holders = [(a + b) % self.modulus for a, b in zip(self.run.holders, changed)]
            found.append(Run(None, variables, holders))
        return found

    def state_of(self, run):
        """A state as it is told: all holders of both, ascending."""
        numbers = dict(zip(self.seat.variables, run.variables))
        numbers.update(dict(zip(self.seat.holders, run.holders)))
        return {holder: numbers[holder] for holder in sorted(numbers)}


def fitting_at(bench, mark, stop):
    """The states that fit at a seat, found out once."""
    key = (mark, stop)
    if key not in bench.fits:
        bench.fits[key] = Fitting(bench, mark, stop)
    return bench.fits[key]


def sure_question(bench, mark, stop):
    """Asks for the number of a sum in EVERY state that fits."""
    return Question(fitting_at(bench, mark, stop), mark, stop)
