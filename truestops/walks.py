"""Runs of a flow: from place to place, by the points alone.

What happens from a place on until something is asked is the same each time, but for the numbers: so it is looked up
once, as a stretch of deeds, and runs go from stretch to stretch.
"""

from truestops.errors import InvalidInputs

SETS = 0
PRINTS = 1
BEGINS = 2
PASSES = 3
# As SETS and PRINTS, of sums that are just what one holder holds.
COPIES = 4
ECHOES = 5


def reckoned(modulus, wanted, numbers):
    """The number of a sum where its holders have these numbers."""
    return sum([factor * (numbers[name] if name else 1) for name, factor in wanted.items()]) % modulus


def holders_with_factors(wanted):
    if "" in wanted:
        return [item for item in wanted.items() if item[0]]
    return list(wanted.items())


def deed_of_sum(kind, plain, holder, wanted):
    """What is done with a sum: of a kind, or of a plain one where the sum is what one holder holds."""
    more = holders_with_factors(wanted)
    if len(wanted) == 1 and more and more[0][1] == 1:
        return (plain, holder, 0, more[0][0])
    return (kind, holder, wanted.get("", 0), more)


def deed_of(flow, place, point):
    """What a point does, with what that takes; None for one that does nothing to the numbers of what lives on."""
    word = point[0]
    if word == "set":
        return deed_of_sum(SETS, COPIES, point[1], point[2])
    if word == "print":
        return deed_of_sum(PRINTS, ECHOES, None, point[1])
    if word == "pass":
        return (PASSES, point[1], None, flow.living(place))
    if word == "live" and point[1]:
        return (BEGINS, None, None, point[1])
    return None


def steps_by_points(flow, place):
    """The places from one on up to the next asking, or the end, and what is done at them."""
    way = [place]
    steps = []
    point = flow.point(place)
    while point[0] not in ("read", "pick", "end"):
        deed = deed_of(flow, place, point)
        if deed is not None:
            steps.append(deed)
        place = point[-1]
        way.append(place)
        point = flow.point(place)
    return way, steps


class Stretch:
    """What happens from a place on until something is asked, or the end: `place`, its `point`, and what is asked.

    `deeds` are what changes numbers or prints, `steps` these and what is passed, and `passings` tuples of the deeds
    ahead of each passing, behind the one ahead of it, and of what is passed and lives there. A letter that answers has
    the word, and a count below the limit.
    """

    def __init__(self, flow, place):
        self.way, self.steps = flow.steps_from(place)
        self.deeds = [deed for deed in self.steps if deed[0] != PASSES]
        self.passings = passings_of(self.steps)
        self.place = self.way[-1]
        self.point = flow.point(self.place)
        point = self.point
        self.asked = asked_by(point)
        self.word = self.asked[0]
        self.limit = flow.modulus if point[0] == "read" else len(point[1]) if point[0] == "pick" else 0


def passings_of(steps):
    found = []
    deeds = []
    for step in steps:
        if step[0] == PASSES:
            found.append((deeds, step[1], step[3]))
            deeds = []
        else:
            deeds.append(step)
    return found


def asked_by(point):
    """What a point asks for, as runs tell it, or that it is the end."""
    if point[0] == "read":
        return ("number",)
    if point[0] == "pick":
        return ("choice", len(point[1]))
    return ("end",)


def stretch_from(flow, place):
    if place not in flow.stretches:
        flow.stretches[place] = Stretch(flow, place)
    return flow.stretches[place]


def do(modulus, deeds, numbers):
    """Makes deeds, none of which passes anything, and returns what they print."""
    printed = []
    for kind, holder, total, more in deeds:
        if kind == COPIES:
            numbers[holder] = numbers[more]
        elif kind == ECHOES:
            printed.append(numbers[more])
        elif kind == BEGINS:
            for name in more:
                numbers[name] = 0
        else:
            for name, factor in more:
                total = total + factor * numbers[name]
            if kind == SETS:
                numbers[holder] = total % modulus
            else:
                printed.append(total % modulus)
    return printed


class Walk:
    """One run: what its beats printed, where it stands, what its holders hold."""

    def __init__(self, flow, inputs):
        if type(inputs) is not list:
            raise InvalidInputs(inputs)
        self.flow = flow
        self.stretch = stretch_from(flow, flow.start)
        self.numbers = {}
        # What the holders hold where the last beat begins.
        self.begin = {}
        self.beats = [do(flow.modulus, self.stretch.deeds, self.numbers)]
        for position, letter in enumerate(inputs):
            self._give(position, letter)
            if position == len(inputs) - 1:
                self.begin = dict(self.numbers)
            self.beats.append(do(flow.modulus, self.stretch.deeds, self.numbers))

    def _give(self, position, letter):
        stretch = self.stretch
        if type(letter) is not tuple or len(letter) != 2 or letter[0] != stretch.word:
            raise InvalidInputs(position)
        count = letter[1]
        if type(count) is not int or not 0 <= count < stretch.limit:
            raise InvalidInputs(position)
        if stretch.word == "number":
            self.numbers[stretch.point[1]] = count
            self.stretch = stretch_from(self.flow, stretch.point[2])
        else:
            self.stretch = stretch_from(self.flow, stretch.point[1][count])

    def state(self):
        return {holder: self.numbers[holder] for holder in self.flow.living(self.stretch.place)}

    def passed(self):
        """The tuples (where, state, how many numbers are printed by then) of all that its last beat passes."""
        numbers = dict(self.begin)
        found = []
        many = 0
        for deeds, told, living in self.stretch.passings:
            many += len(do(self.flow.modulus, deeds, numbers))
            found.append((told, {holder: numbers[holder] for holder in living}, many))
        return found

    def state_passed(self, where):
        """The state in which its last beat passes this, or None."""
        # The last beat is made once more, as far as that.
        numbers = dict(self.begin)
        for deeds, told, living in self.stretch.passings:
            do(self.flow.modulus, deeds, numbers)
            if told == where:
                return {holder: numbers[holder] for holder in living}
        return None
