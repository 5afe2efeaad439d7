"""Beats of a program and of rows side by side, as sums of the holders of both.

A joint vector holds factors of the program's holders where a beat begins and, behind them, of those of the rows. The
first tell how what the program tells hangs on its holders, the others how what the rows tell hangs on theirs. What is
told are the numbers printed and, where there are readings, those read at the marks that are passed.
"""

from truestops.vectors import added_up


def beside(mine, theirs, first, second):
    """The joint vector of one of each engine, of which the numbers of these many holders count."""
    return mine[:first] + theirs[:second]


class JointPass:
    """A true mark that is passed in a joint beat at a stop: what lives there, by what lives where the beat begins."""

    def __init__(self, mark, stop, variables, holders, many):
        self.mark = mark
        self.stop = stop
        self.variables = variables
        self.holders = holders
        self.many = many


class JointBeat:
    """A beat of a program and the rows' one beside it. `prints` are the joint vectors of all that is told."""

    def __init__(self, mine, theirs, passes):
        self.mine = mine
        self.theirs = theirs
        self.width = mine.width + theirs.width
        self.place = (mine.place, theirs.place)
        self.asked = mine.asked
        self.passes = passes
        self.printed = [self.joint(one, other) for one, other in zip(mine.prints, theirs.prints)]
        self.prints = self.printed
        nought = [0] * self.width
        self.after = [self.joint(vector, nought) for vector in mine.after]
        self.after.extend([self.joint(nought, vector) for vector in theirs.after])

    def asks(self):
        return self.asked[0] != "end"

    def joint(self, mine, theirs):
        return beside(mine, theirs, self.mine.width, self.theirs.width)

    def tell(self, modulus, readings):
        """Puts the numbers of readings between the prints: tuples of factors by the tuple of mark and stop."""
        told = []
        many = 0
        for passed in self.passes:
            told.extend(self.printed[many:passed.many])
            many = passed.many
            for wanted, rule in readings.get((passed.mark, passed.stop), []):
                mine = added_up(modulus, passed.variables, wanted, self.mine.width)
                told.append(self.joint(mine, added_up(modulus, passed.holders, rule, self.theirs.width)))
        self.prints = told + self.printed[many:]


class Joints:
    """The joint beats of a bench, each made once. Places are pairs of asking places, seats pairs (mark, stop).

    `readings` leads seats to lists of tuples of the factors of a sum there and of a rule.
    """

    def __init__(self, program, rows, passings, readings):
        self.modulus = rows.prime()
        self.program = program
        self.rows = rows
        self.passings = passings
        self.sight = None
        self.ladders = None
        self.seen = {}
        self._readings = readings
        self._known = {}

    def variables(self, stop):
        return self.program.flow.living(self.program.flow.passing_places[stop])

    def holders(self, mark):
        return self.rows.flow.living(self.rows.flow.passing_places[mark])

    def first(self):
        return self._beat(None, self.program.beats.first(), self.rows.beats.first())

    def rest(self, seat):
        """The beat from a mark and a stop on that is passed with it; the first pass is that of the mark itself."""
        mark, stop = seat
        mine = self.program.beats.rest(self.program.flow.passing_places[stop])
        theirs = self.rows.beats.rest(self.rows.flow.passing_places[mark])
        return self._beat((seat, None), mine, theirs)

    def asked_there(self, place):
        return self.program.beats.asked_there(place[0])

    def behind(self, place, letter):
        mine = self.program.beats.behind(place[0], letter)
        theirs = self.rows.beats.behind(place[1], letter)
        # Of a letter the beats know no more than where it leads.
        return self._beat((place, mine.key[1]), mine, theirs)

    def _beat(self, key, mine, theirs):
        if key not in self._known:
            beat = JointBeat(mine, theirs, self._true_passes(mine, theirs))
            if self._readings:
                beat.tell(self.modulus, self._readings)
            self._known[key] = beat
        return self._known[key]

    def _true_passes(self, mine, theirs):
        passed = {stop: vectors for stop, vectors, _ in mine.passes}
        found = []
        for mark, vectors, many in theirs.passes:
            if self.passings.is_true(mark):
                stops = [stop for stop in self.rows.flow.stops_of(mark) if stop in passed]
                # Where marks are out of order a later one may have had its stop ahead of where the beat begins.
                found.extend([JointPass(mark, stop, passed[stop], vectors, many) for stop in stops])
        return found
