"""Runs that come to a mark, with the numbers of the program when they last passed an earlier one at a stop."""

from truestops.forms import letter_fits
from truestops.hulls import Hull
from truestops.passings import Run, new_runs
from truestops.tours import first_going, going_behind, goings_behind


class Past:
    """Looks for runs to a mark ahead of which an earlier mark was passed at a stop."""

    def __init__(self, bench, earlier, stop, mark):
        self.bench = bench
        self.modulus = bench.rows().prime()
        self.all_beats = [bench.program().beats, bench.rows().beats]
        self._earlier = earlier
        self._stop = stop
        self._mark = mark

    def base_runs(self):
        return PastTour(self).told

    def looked_at(self, going, memory):
        """The run of a going if it passes the mark so, else None, and what is kept in mind behind its last beat.

        Kept in mind are the numbers of the variables at the stop where the earlier mark was last passed there, None
        ahead of that.
        """
        program, rows = going.turns
        run = None
        for passed, vectors, _ in rows.beat.passes:
            # The mark may be the earlier one itself: then the passing before it is meant.
            if passed == self._mark and memory is not None:
                run = Run(going.inputs, memory, rows.reckoned(vectors))
            if passed == self._earlier and program.comes_by(self._stop):
                memory = program.numbers_at(self._stop)
        return run, memory

    def run_on(self, inputs):
        """The run on any inputs if its last beat passes the mark so, else None."""
        if type(inputs) is not list:
            return None
        going = first_going(self.all_beats)
        run, memory = self.looked_at(going, None)
        for letter in inputs:
            if not letter_fits(self.modulus, going.turns[0].beat.asked, letter):
                return None
            going = going_behind(self.all_beats, going, letter)
            run, memory = self.looked_at(going, memory)
        return run


class PastTour:
    """Goes through all inputs in order. What is kept in mind is part of the state: a run shows nothing new only if it
    is the same mixture of earlier ones in this, too. `told` are those of which all others are mixtures."""

    def __init__(self, past):
        self.past = past
        self._found = []
        self._hulls = {}
        self._standing = []
        self._go_through(first_going(past.all_beats), None)
        at = 0
        while at < len(self._standing):
            going, memory = self._standing[at]
            behind = goings_behind(past.all_beats, going)
            for one in behind:
                self._go_through(one, memory)
            at += 1
        self.told = new_runs(past.modulus, self._found)

    def _go_through(self, going, before):
        run, memory = self.past.looked_at(going, before)
        if run is not None:
            self._found.append(run)
        if going.asks():
            kept_in_mind = [] if memory is None else memory
            hull = self._hulls.setdefault((going.places(), memory is None), Hull(self.past.modulus))
            if hull.take_in(going.joint_after() + kept_in_mind + [1]):
                self._standing.append((going, memory))
