"""The last beats of runs on any inputs, kept with a bench: papers tell few runs, again and again."""

from truestops.errors import InvalidInputs
from truestops.walks import Walk

MOST_KEPT = 1000


def key_of(inputs):
    """A key for a list of letters; None for any object that has not the form of one."""
    if type(inputs) is not list:
        return None
    for letter in inputs:
        if type(letter) is not tuple or len(letter) != 2 or type(letter[0]) is not str or type(letter[1]) is not int:
            return None
    return tuple(inputs)


class LastBeat:
    """What program and rows pass in the last beat of a run on inputs that fit. Callers do not change the lists."""

    def __init__(self, bench, walk, inputs):
        self._bench = bench
        self._walk = walk
        self._inputs = list(inputs)
        self._holders = {}
        self._variables = {}
        self._stops = None

    def holders(self, mark):
        """The numbers of the rows' holders as a mark is passed, or None."""
        if mark not in self._holders:
            state = self._walk.state_passed(mark)
            self._holders[mark] = None if state is None else list(state.values())
        return self._holders[mark]

    def variables(self, stop):
        """The numbers of the variables as a stop is passed, or None."""
        if stop not in self._variables:
            state = Walk(self._bench.program().flow, self._inputs).state_passed(stop)
            self._variables[stop] = None if state is None else list(state.values())
        return self._variables[stop]

    def stop_of(self, mark):
        """The first stop of a mark that is passed; of a true one that is passed there is just one."""
        stops = self._bench.rows().flow.stops_of(mark)
        return [told for told in self._stops_passed() if told in stops][0]

    def _stops_passed(self):
        # Which ones they are hangs on the choices alone.
        if self._stops is None:
            beats = self._bench.program().beats
            beat = beats.first()
            for letter in self._inputs:
                beat = beats.next_beat(beat, letter)
            self._stops = [stop for stop, _, _ in beat.passes]
        return self._stops


def last_beat(bench, inputs):
    """The last beat of a run on any inputs, or None if they do not fit."""
    key = key_of(inputs)
    if key is None:
        return None
    if key not in bench.lasts:
        if len(bench.lasts) >= MOST_KEPT:
            bench.lasts.clear()
        bench.lasts[key] = found_last(bench, inputs)
    return bench.lasts[key]


def found_last(bench, inputs):
    try:
        return LastBeat(bench, Walk(bench.rows().flow, inputs), inputs)
    except InvalidInputs:
        return None
