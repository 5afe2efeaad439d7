"""Beats as sums: what happens from one asking to the next one, whatever the holders hold and whatever is read.

Which points come hangs on the choices alone, and each point is a sum; so all that a beat prints, passes and leads to
is told by vectors of factors: those of the holders that live where it begins, ascending, then that of the letter's
number, then that of 1. The numbers themselves, in this order, are the beat's inlet.
"""

from truestops.walks import COPIES, ECHOES, PASSES, PRINTS, SETS, asked_by, stretch_from


def branches(asked):
    """Letters for all that can come behind an asking, numbers left out of account."""
    if asked[0] == "number":
        return [("number", 0)]
    if asked[0] == "choice":
        return [("choice", choice) for choice in range(asked[1])]
    return []


def letters_to_try(asked):
    """The letters of which all that fit are mixtures."""
    return [("number", 0), ("number", 1)] if asked[0] == "number" else branches(asked)


def number_of(letter):
    """What a letter puts into an inlet: a choice puts in nothing."""
    return letter[1] if letter[0] == "number" else 0


def unit_vector(width, at):
    vector = [0] * width
    vector[at] = 1
    return vector


class Beat:
    """One beat. `way` lists the places that it comes to, the last one, `place`, too, which asks or is the end.
    `width` is the number of the holders where it begins, `key` tells it from all other beats of its flow, and so does
    the count `number`; `leads` are the beats behind it that were asked for, by the branches of letters. `spot` is a
    count that tells where it ends from where others of its flow do."""

    def __init__(self, key, width, stretch, prints, passes, after):
        self.key = key
        self.number = 0
        self.spot = 0
        self.leads = {}
        self.width = width
        self.way = stretch.way
        self.place = stretch.place
        self.prints = prints
        # Tuples (where, vectors of the holders that live there, ascending, how many numbers are printed by then).
        self.passes = passes
        self.after = after
        self.asked = stretch.asked

    def asks(self):
        return self.asked[0] != "end"


class BeatMaker:
    """Makes one beat of a flow: what a stretch does with the vectors of the holders that live where it begins."""

    def __init__(self, flow, stretch, vectors, width):
        self.flow = flow
        self.stretch = stretch
        self.vectors = vectors
        self.width = width

    def sum_of(self, constant, more):
        total = [0] * self.width
        total[-1] = constant
        for name, factor in more:
            if factor == 1:
                total = [a + b for a, b in zip(total, self.vectors[name])]
            else:
                total = [a + factor * b for a, b in zip(total, self.vectors[name])]
        modulus = self.flow.modulus
        return [number % modulus for number in total]

    def made(self, key):
        prints = []
        passes = []
        vectors = self.vectors
        # Vectors are never changed, so what is copied may be one and the same.
        for kind, told, constant, more in self.stretch.steps:
            if kind == COPIES:
                vectors[told] = vectors[more]
            elif kind == PASSES:
                passes.append((told, [vectors[holder] for holder in more], len(prints)))
            elif kind == SETS:
                vectors[told] = self.sum_of(constant, more)
            elif kind == ECHOES:
                prints.append(vectors[more])
            elif kind == PRINTS:
                prints.append(self.sum_of(constant, more))
            else:
                for holder in more:
                    vectors[holder] = [0] * self.width
        after = [vectors[holder] for holder in self.flow.living(self.stretch.place)]
        return Beat(key, self.width - 2, self.stretch, prints, passes, after)


class Beats:
    """The beats of a flow, each made once. Others keep here, too, what they find out of all of them."""

    def __init__(self, flow):
        self.flow = flow
        self.modulus = flow.modulus
        self.tour = None
        self.sight = None
        self.seen = {}
        self._known = {}
        self._spots = {}

    def asked_there(self, place):
        return asked_by(self.flow.point(place))

    def first(self):
        return self.rest(self.flow.start)

    def rest(self, place):
        """The beat from a place on; at the start nothing lives, and the whole first beat is made."""
        key = (place, None)
        if key not in self._known:
            self._known[key] = self._made_from(key, place, None)
        return self._known[key]

    def behind(self, place, letter):
        """The beat behind a letter that is given at an asking place."""
        point = self.flow.point(place)
        # All numbers lead along one way.
        branch = letter[1] if point[0] == "pick" else 0
        key = (place, branch)
        if key not in self._known:
            if point[0] == "pick":
                self._known[key] = self._made_from(key, point[1][branch], None)
            else:
                self._known[key] = self._made_from(key, point[2], point[1])
        return self._known[key]

    def next_beat(self, beat, letter):
        """The beat behind a letter that is given behind one."""
        branch = letter[1] if beat.asked[0] == "choice" else 0
        if branch not in beat.leads:
            beat.leads[branch] = self.behind(beat.place, letter)
        return beat.leads[branch]

    def _made_from(self, key, begin, reader):
        """The beat that begins at a place, by the holders at that of its key, perhaps one with the number read."""
        place = key[0]
        holders = [] if place == self.flow.start else self.flow.living(place)
        width = len(holders) + 2
        vectors = {holder: unit_vector(width, at) for at, holder in enumerate(holders)}
        if reader is not None:
            vectors[reader] = unit_vector(width, width - 2)
        stretch = stretch_from(self.flow, begin)
        beat = BeatMaker(self.flow, stretch, vectors, width).made(key)
        beat.number = len(self._known)
        beat.spot = self._spots.setdefault(beat.place, len(self._spots))
        return beat
