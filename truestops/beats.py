"""Beats as sums: what happens from one asking to the next one, whatever the holders hold and whatever is read.

Which points come hangs on the choices alone, and each point is a sum; so all that a beat prints, passes and leads to
is told by vectors of factors: those of the holders that live where it begins, ascending, then that of the letter's
number, then that of 1. The numbers themselves, in this order, are the beat's inlet.
"""

from truestops.vectors import added_up


def asked_at(flow, place):
    """What is asked for at a place, as runs tell it."""
    point = flow.point(place)
    if point[0] == "read":
        return ("number",)
    if point[0] == "pick":
        return ("choice", len(point[1]))
    return ("end",)


def branches(asked):
    """Letters for all that can come behind an asking, numbers left out of account."""
    if asked[0] == "number":
        return [("number", 0)]
    if asked[0] == "choice":
        return [("choice", choice) for choice in range(asked[1])]
    return []


def letters_to_try(asked):
    """The letters of which all that fit are mixtures."""
    return [("number", 0), ("number", 1)] if asked[0] == "number" else branches(asked)


def number_of(letter):
    """What a letter puts into an inlet: a choice puts in nothing."""
    return letter[1] if letter[0] == "number" else 0


def unit_vector(width, at):
    vector = [0] * width
    vector[at] = 1
    return vector


class Beat:
    """One beat. `way` lists the places that it comes to, the last one, `place`, too, which asks or is the end.
    `width` is the number of the holders where it begins, `key` tells it from all other beats of its flow."""

    def __init__(self, key, width, way, prints, passes, after, asked):
        self.key = key
        self.width = width
        self.way = way
        self.place = way[-1]
        self.prints = prints
        # Tuples (where, vectors of the holders that live there, ascending, how many numbers are printed by then).
        self.passes = passes
        self.after = after
        self.asked = asked

    def asks(self):
        return self.asked[0] != "end"


class BeatMaker:
    """Makes one beat of a flow, from a place on, with the vectors of the holders that live there."""

    def __init__(self, flow, place, vectors, width):
        self.flow = flow
        self.place = place
        self.vectors = {**vectors, "": unit_vector(width, width - 1)}
        self.width = width
        self.prints = []
        self.passes = []

    def sum_of(self, wanted):
        vectors = [self.vectors[name] for name in wanted]
        return added_up(self.flow.modulus, vectors, list(wanted.values()), self.width)

    def state(self):
        return [self.vectors[holder] for holder in self.flow.living(self.place)]

    def made(self, key):
        way = [self.place]
        point = self.flow.point(self.place)
        while point[0] not in ("read", "pick", "end"):
            self._carry_out(point)
            self.place = point[-1]
            way.append(self.place)
            point = self.flow.point(self.place)
        return Beat(key, self.width - 2, way, self.prints, self.passes, self.state(), asked_at(self.flow, self.place))

    def _carry_out(self, point):
        if point[0] == "live":
            for holder in point[1]:
                self.vectors[holder] = [0] * self.width
        elif point[0] == "set":
            self.vectors[point[1]] = self.sum_of(point[2])
        elif point[0] == "print":
            self.prints.append(self.sum_of(point[1]))
        elif point[0] == "pass":
            self.passes.append((point[1], self.state(), len(self.prints)))


class Beats:
    """The beats of a flow, each made once. Others keep here, too, what they find out of all of them."""

    def __init__(self, flow):
        self.flow = flow
        self.modulus = flow.modulus
        self.tour = None
        self.sight = None
        self.seen = {}
        self._known = {}

    def asked_there(self, place):
        return asked_at(self.flow, place)

    def first(self):
        return self.rest(self.flow.start)

    def rest(self, place):
        """The beat from a place on; at the start nothing lives, and the whole first beat is made."""
        key = (place, None)
        if key not in self._known:
            self._known[key] = self._made_from(key, place, None)
        return self._known[key]

    def behind(self, place, letter):
        """The beat behind a letter that is given at an asking place."""
        point = self.flow.point(place)
        # All numbers lead along one way.
        branch = letter[1] if point[0] == "pick" else 0
        key = (place, branch)
        if key not in self._known:
            if point[0] == "pick":
                self._known[key] = self._made_from(key, point[1][branch], None)
            else:
                self._known[key] = self._made_from(key, point[2], point[1])
        return self._known[key]

    def _made_from(self, key, begin, reader):
        """The beat that begins at a place, by the holders at that of its key, perhaps one with the number read."""
        place = key[0]
        holders = [] if place == self.flow.start else self.flow.living(place)
        width = len(holders) + 2
        vectors = {holder: unit_vector(width, at) for at, holder in enumerate(holders)}
        if reader is not None:
            vectors[reader] = unit_vector(width, width - 2)
        return BeatMaker(self.flow, begin, vectors, width).made(key)
