"""Runs of a flow: from place to place, by the points alone."""

from truestops.errors import InvalidInputs
from truestops.forms import letter_fits


def reckoned(modulus, wanted, numbers):
    """The number of a sum where its holders have these numbers."""
    return sum([factor * (numbers[name] if name else 1) for name, factor in wanted.items()]) % modulus


class Walk:
    """One run: where it stands, what its holders hold, and what its last beat passed and printed."""

    def __init__(self, flow):
        self.flow = flow
        self.place = flow.start
        self.numbers = {}
        self.way = []
        self.passed = []
        self.printed = []

    def asking(self):
        """What is asked for, or the end, where the run stands behind a beat."""
        point = self.flow.point(self.place)
        if point[0] == "read":
            return ("number",)
        if point[0] == "pick":
            return ("choice", len(point[1]))
        return ("end",)

    def give(self, letter):
        """Takes a letter that fits. The beat behind it begins with the place to which it leads."""
        point = self.flow.point(self.place)
        if point[0] == "read":
            self.numbers[point[1]] = letter[1]
            self.place = point[2]
        else:
            self.place = point[1][letter[1]]

    def go_on(self):
        """Makes a beat: all until something is asked for, or the end."""
        self.way = [self.place]
        self.passed = []
        self.printed = []
        point = self.flow.point(self.place)
        while point[0] not in ("read", "pick", "end"):
            self._carry_out(point)
            self.place = point[-1]
            self.way.append(self.place)
            point = self.flow.point(self.place)

    def state(self):
        return {holder: self.numbers[holder] for holder in self.flow.living(self.place)}

    def _carry_out(self, point):
        if point[0] == "live":
            for holder in point[1]:
                self.numbers[holder] = 0
        elif point[0] == "gone":
            for holder in point[1]:
                del self.numbers[holder]
        elif point[0] == "set":
            self.numbers[point[1]] = reckoned(self.flow.modulus, point[2], self.numbers)
        elif point[0] == "print":
            self.printed.append(reckoned(self.flow.modulus, point[1], self.numbers))
        else:
            self.passed.append((point[1], self.state(), len(self.printed)))


def walked_on(flow, inputs):
    """The walk at the end of its last beat, and what all beats printed."""
    if type(inputs) is not list:
        raise InvalidInputs(inputs)
    walk = Walk(flow)
    walk.go_on()
    beats = [walk.printed]
    for position, letter in enumerate(inputs):
        if not letter_fits(flow.modulus, walk.asking(), letter):
            raise InvalidInputs(position)
        walk.give(letter)
        walk.go_on()
        beats.append(walk.printed)
    return walk, beats
