"""What passes what in the beats of a bench's tour: the marks of the rows beside the stops of the program."""

from truestops.hulls import Hull


class Passing:
    """A mark that is passed in a beat, with how many numbers are printed by then, and likewise those of its stops
    that the program passes in this beat, as tuples (stop, many, at): `at` counts all stops passed by then."""

    def __init__(self, mark, many, stops):
        self.mark = mark
        self.many = many
        self.stops = stops

    def is_stray(self):
        return len(self.stops) != 1

    def is_uneven(self):
        return self.stops[0][1] != self.many


def passings_in(flow, going):
    """The passings of a beat of a program and rows, in the order in which the rows pass the marks."""
    passed = [(stop, many, at) for at, (stop, _, many) in enumerate(going.turns[0].beat.passes)]
    found = []
    for mark, _, many in going.turns[1].beat.passes:
        stops = flow.stops_of(mark)
        found.append(Passing(mark, many, [told for told in passed if told[0] in stops]))
    return found


def first_turned(passings):
    """The first true mark passed ahead of another one whose stop is passed ahead of its own, and that one; or None."""
    for at, passing in enumerate(passings):
        for later in passings[at + 1:]:
            if later.stops[0][2] < passing.stops[0][2]:
                return (passing.mark, later.mark)
    return None


class Run:
    """A run that comes to a mark: its inputs, the numbers of variables that are asked for, those of the holders."""

    def __init__(self, inputs, variables, holders):
        self.inputs = inputs
        self.variables = variables
        self.holders = holders


def new_runs(prime, runs):
    """Those runs, in order, that are no mixtures of the ones ahead of them."""
    hull = Hull(prime)
    found = []
    for run in runs:
        if hull.take_in(run.variables + run.holders + [1]):
            found.append(run)
    return found


class Passings:
    """All passings of a tour of a program and rows, what they make of the marks, and the runs that come there."""

    def __init__(self, flow, tour):
        self.flow = flow
        self.tour = tour
        # The beats that are made for the first time, with their passings: (inputs, passings).
        self.beats = [(going.inputs, passings_in(flow, going)) for going in tour.goings if going.fresh]
        self._words = {}
        self._runs = {}
        self._seats = None

    def of_mark(self, mark):
        """The tuples (inputs, passing) of a mark, the least inputs of each beat, in order."""
        return [(inputs, passing) for inputs, told in self.beats for passing in told if passing.mark == mark]

    def word(self, mark):
        """What a mark is, and the least inputs that show it."""
        if mark not in self._words:
            self._words[mark] = self._word_of(self.of_mark(mark))
        return self._words[mark]

    def _word_of(self, told):
        if not told:
            return ("never", None)
        stray = [inputs for inputs, passing in told if passing.is_stray()]
        if stray:
            return ("stray", stray[0])
        uneven = [inputs for inputs, passing in told if passing.is_uneven()]
        if uneven:
            return ("uneven", uneven[0])
        return ("true", told[0][0])

    def is_true(self, mark):
        return self.word(mark)[0] == "true"

    def turned(self):
        """The least inputs in whose last beat a true mark is passed ahead of one whose stop comes first, with the
        first two such marks; None if there are none."""
        for inputs, told in self.beats:
            found = first_turned([passing for passing in told if self.is_true(passing.mark)])
            if found is not None:
                return (inputs, found[0], found[1])
        return None

    def stops_with(self, mark):
        """The ascending list of the stops that some run passes with a true mark."""
        found = {passing.stops[0][0]: True for _, passing in self.of_mark(mark)}
        return sorted(found)

    def true_seats(self):
        """The ascending list of the tuples (mark, stop) of all true marks and the stops that are passed with them."""
        if self._seats is None:
            marks = [mark for mark in sorted(self.flow.passing_places) if self.is_true(mark)]
            self._seats = [(mark, stop) for mark in marks for stop in self.stops_with(mark)]
        return self._seats

    def runs_to(self, mark, stop):
        """Runs to a true mark at a stop, with the numbers of all variables there, of which all others are mixtures."""
        key = (mark, stop)
        if key not in self._runs:
            self._runs[key] = new_runs(self.tour.modulus, self._all_runs_to(mark, stop))
        return self._runs[key]

    def _all_runs_to(self, mark, stop):
        found = []
        goings = self.tour.goings
        for positions in self.tour.by_beats.values():
            program, rows = goings[positions[0]].turns
            if rows.comes_by(mark) and program.comes_by(stop):
                found.extend(positions)
        return [self._run_of(goings[at], mark, stop) for at in sorted(found)]

    def _run_of(self, going, mark, stop):
        program, rows = going.turns
        return Run(going.inputs, program.numbers_at(stop), rows.numbers_at(mark))
