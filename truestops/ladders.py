"""What bars moves by pieces: sums of the variables at each true mark and stop that whatever can be moved makes 0.

Beats are cut at the next true mark. What shows ahead of it is told by joint vectors, as in sights; behind it only the
program's part counts, for there a new change may put every holder of the rows.
"""

from truestops.beats import branches
from truestops.hulls import Hull
from truestops.vectors import added_up, inverse_of


class Cut:
    """A joint beat up to the next true mark. `passed` tells this one, or is None."""

    def __init__(self, beat, at_mark):
        passes = beat.passes[int(at_mark):]
        self.beat = beat
        self.passed = passes[0] if passes else None
        self.prints = beat.prints if self.passed is None else beat.prints[:self.passed.many]

    def next_seat(self):
        return (self.passed.mark, self.passed.stop)

    def leads_on(self):
        """Whether, where no mark is passed, there is more to come."""
        return self.beat.asks()


class Part:
    """A joint vector of a place: of the number at a position behind letters, or of a step come to by letters."""

    def __init__(self, vector, word, letters, number):
        self.vector = vector
        self.word = word
        self.letters = letters
        self.number = number


class Step:
    """A sum that is 0 for all that can be moved by pieces at a seat, put together of parts with factors."""

    def __init__(self, seat, factors, parts):
        self.seat = seat
        self.factors = factors
        self.parts = parts


class Blend:
    """Parts of a seat with factors, `vector` what they add up to, of which the numbers behind `width` are the rows'."""

    def __init__(self, modulus, vector, parts):
        self.modulus = modulus
        self.vector = vector
        self.parts = parts

    def lead(self, width):
        """The place of the first holder of the rows on which this hangs, or None."""
        for place in range(width, len(self.vector)):
            if self.vector[place]:
                return place
        return None

    def less(self, other, factor):
        vector = [(a - factor * b) % self.modulus for a, b in zip(self.vector, other.vector)]
        return Blend(self.modulus, vector, self.parts + [(part, -factor * n % self.modulus) for part, n in other.parts])

    def freed_of(self, other, place):
        """This with so much of another one, which hangs on a holder, taken off that it hangs on it no more."""
        factor = self.vector[place] * inverse_of(self.modulus, other.vector[place]) % self.modulus
        return self.less(other, factor) if factor else self


def gathered(modulus, parts):
    """Parts with factors, each once, without those whose factors come to 0."""
    order = []
    factors = {}
    for part, factor in parts:
        key = (part.word, tuple(part.letters), part.number)
        if key not in factors:
            factors[key] = 0
            order.append((key, part))
        factors[key] = (factors[key] + factor) % modulus
    return [(part, factors[key]) for key, part in order if factors[key]]


class Ladders:
    """All such sums of a bench whose marks are in order, found by going back from what shows, mark by mark."""

    def __init__(self, joints):
        self.joints = joints
        self.modulus = joints.modulus
        self.steps = []
        # By seats and by pairs of asking places: what comes behind each, and what leads to it.
        self._cuts = {}
        self._leads = {}
        self._parts = {}
        self._hulls = {}
        self._blends = {seat: [] for seat in joints.passings.true_seats()}
        self._waiting = []
        for seat in joints.passings.true_seats():
            self._come_to(seat, True)
        for place in list(self._cuts):
            self._look_at(place)
        at = 0
        while at < len(self._waiting):
            self._go_back(self._waiting[at])
            at += 1

    def parts_of(self, seat):
        return self._parts[seat]

    def steps_of(self, seat):
        return [step for step in self.steps if step.seat == seat]

    def cuts_of(self, place):
        """The tuples (letters, cut) of what comes behind a seat or a pair of asking places."""
        return self._cuts[place]

    def _come_to(self, place, is_seat):
        """Notes a place, and all pairs of asking places to which it leads ahead of any true mark."""
        waiting = [(place, is_seat)]
        while waiting:
            told, at_mark = waiting.pop()
            if told not in self._cuts:
                self._cuts[told] = self._cuts_behind(told, at_mark)
                self._parts[told] = []
                self._hulls[told] = Hull(self.modulus)
                for letters, cut in self._cuts[told]:
                    if cut.passed is not None:
                        self._leads.setdefault(cut.next_seat(), []).append((told, letters, cut))
                    elif cut.leads_on():
                        self._leads.setdefault(cut.beat.place, []).append((told, letters, cut))
                        waiting.append((cut.beat.place, False))

    def _cuts_behind(self, place, at_mark):
        if at_mark:
            return [([], Cut(self.joints.rest(place), True))]
        letters = branches(self.joints.asked_there(place))
        return [([letter], Cut(self.joints.behind(place, letter), False)) for letter in letters]

    def _look_at(self, place):
        for letters, cut in self._cuts[place]:
            for at, vector in enumerate(cut.prints):
                self._note(place, Part(vector, "print", letters, at))

    def _note(self, place, part):
        if self._hulls[place].take_in(part.vector):
            self._parts[place].append(part)
            self._waiting.append((place, part))

    def _go_back(self, item):
        place, part = item
        if place in self._blends:
            self._blend(place, part)
            return
        for ahead, letters, cut in self._leads.get(place, []):
            vector = added_up(self.modulus, cut.beat.after, part.vector, cut.beat.width)
            number = part.number + (len(cut.prints) if part.word == "print" else 0)
            self._note(ahead, Part(vector, part.word, letters + part.letters, number))

    def _blend(self, seat, part):
        """Takes a part of a seat in. If the holders of the rows drop out of it, or of what it adds up to with earlier
        ones, there is a step."""
        width = len(self.joints.variables(seat[1]))
        blend = Blend(self.modulus, part.vector, [(part, 1)])
        led = self._blends[seat]
        for place, other in led:
            blend = blend.freed_of(other, place)
        place = blend.lead(width)
        if place is not None:
            led.append((place, blend))
            return
        step = Step(seat, blend.vector[:width], gathered(self.modulus, blend.parts))
        self.steps.append(step)
        for ahead, letters, cut in self._leads.get(seat, []):
            vector = added_up(self.modulus, cut.passed.variables, step.factors, cut.beat.mine.width)
            rows = [0] * cut.beat.theirs.width
            self._note(ahead, Part(vector + rows, "later", letters, len(self.steps) - 1))


def ladders_of(joints):
    """The ladders of a bench, made once."""
    if joints.ladders is None:
        joints.ladders = Ladders(joints)
    return joints.ladders
