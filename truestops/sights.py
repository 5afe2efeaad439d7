"""Sights: what of the holders at an asking place shows in numbers printed behind it, by sums of the holders.

Each number of a going-on hangs on the holders by a vector of factors. Those of all goings-on are put together of
finitely many: letters are set ahead of them as long as that brings new ones.
"""

from truestops.beats import branches
from truestops.errors import InvalidInputs
from truestops.forms import is_count, letter_fits
from truestops.hulls import Hull
from truestops.vectors import added_up


class Seen:
    """A number behind some place: its factors there, and where it is printed: the letters, and the position."""

    def __init__(self, factors, letters, position):
        self.factors = factors
        self.letters = letters
        self.position = position


def printed_in(beat, letters):
    """What is seen in a beat itself, by the holders where it begins."""
    return [Seen(vector[:beat.width], letters, at) for at, vector in enumerate(beat.prints)]


def drawn_back(modulus, beat, factors):
    """The factors of a number behind a beat, by the holders where the beat begins."""
    return added_up(modulus, beat.after, factors, beat.width)


def ahead_of(modulus, beat, seen, letters):
    """What is seen behind a beat, told from where the beat begins."""
    factors = drawn_back(modulus, beat, seen.factors)
    return Seen(factors, letters + seen.letters, len(beat.prints) + seen.position)


class Sight:
    """What is seen from each of the asking places that can be come to from some places on."""

    def __init__(self, beats, places):
        self.beats = beats
        self.modulus = beats.modulus
        self.found = {}
        self._hulls = {}
        self._leads = {}
        self._waiting = []
        self._come_to(places)
        for place in list(self.found):
            self._look_at_beats(place)
        at = 0
        while at < len(self._waiting):
            self._draw_back(self._waiting[at])
            at += 1

    def _come_to(self, places):
        """Notes all asking places, and for each the beats that lead to it, with their letters and places."""
        waiting = list(places)
        while waiting:
            place = waiting.pop()
            if place not in self.found:
                self.found[place] = []
                self._leads.setdefault(place, [])
                self._hulls[place] = Hull(self.modulus)
                for letter, beat in self._beats_behind(place):
                    if beat.asks():
                        self._leads.setdefault(beat.place, []).append((place, letter, beat))
                        waiting.append(beat.place)

    def _beats_behind(self, place):
        asked = self.beats.asked_there(place)
        return [(letter, self.beats.behind(place, letter)) for letter in branches(asked)]

    def _look_at_beats(self, place):
        for letter, beat in self._beats_behind(place):
            for seen in printed_in(beat, [letter]):
                self._note(place, seen)

    def _note(self, place, seen):
        if self._hulls[place].take_in(seen.factors):
            self.found[place].append(seen)
            self._waiting.append((place, seen))

    def _draw_back(self, item):
        behind, seen = item
        for place, letter, beat in self._leads[behind]:
            self._note(place, ahead_of(self.modulus, beat, seen, [letter]))


def sight_of(beats):
    """The sight of all asking places that some run comes to, made once. It needs no numbers."""
    if beats.sight is None:
        first = beats.first()
        beats.sight = Sight(beats, [first.place] if first.asks() else [])
    return beats.sight


def seen_from(beats, place):
    """What is seen from a place that some run comes to: as few numbers as all others are put together of."""
    if place not in beats.seen:
        beats.seen[place] = all_seen_from(beats, place)
    return beats.seen[place]


def all_seen_from(beats, place):
    rest = beats.rest(place)
    told = printed_in(rest, [])
    if rest.asks():
        told.extend([ahead_of(beats.modulus, rest, seen, []) for seen in sight_of(beats).found[rest.place]])
    hull = Hull(beats.modulus)
    found = []
    for seen in told:
        if hull.take_in(seen.factors):
            found.append(seen)
    return found


def beats_along(beats, place, letters):
    """The rest of the beat at a place, and the beats behind the letters of a list, all of which have to fit."""
    along = [beats.rest(place)]
    for position, letter in enumerate(letters):
        if not letter_fits(beats.modulus, along[-1].asked, letter):
            raise InvalidInputs(position)
        along.append(beats.behind(along[-1].place, letter))
    return along


def drawn_along(modulus, beats, factors):
    """The factors of a number behind several beats, by the holders where the first one begins."""
    for beat in reversed(beats):
        factors = drawn_back(modulus, beat, factors)
    return factors


def factors_at(beats, place, going_on, position):
    """The factors of the number at a position of a going-on from a place; None if any objects tell no such number."""
    if type(going_on) is not list or not is_count(position):
        return None
    try:
        along = beats_along(beats, place, going_on)
    except InvalidInputs:
        return None
    ahead = []
    for beat in along:
        if position < len(beat.prints):
            return drawn_along(beats.modulus, ahead, beat.prints[position][:beat.width])
        position -= len(beat.prints)
        ahead.append(beat)
    return None
