"""Searches for the least going-on in which a stir shows."""

from truestops.beats import branches
from truestops.hulls import Hull
from truestops.tours import Turn


def stirred_turn(modulus, beat, amounts):
    """A turn that tells how all is raised if the holders are raised by amounts: letters and 1 raise nothing."""
    return Turn(modulus, beat, amounts + [0, 0])


class Search:
    """Goes through all goings-on from a place in order until a stir shows; those behind which it is a sum of earlier
    ones at the same place show nothing new. `hit` tells the letters and the position, or is None."""

    def __init__(self, beats, place, amounts):
        self.beats = beats
        self.hit = None
        self._hulls = {}
        self._standing = []
        self._look_at([], beats.rest(place), amounts, 0)
        at = 0
        while self.hit is None and at < len(self._standing):
            self._go_on_from(self._standing[at])
            at += 1

    def _go_on_from(self, standing):
        letters, place, amounts, many = standing
        for letter in branches(self.beats.asked_there(place)):
            if self.hit is None:
                self._look_at(letters + [letter], self.beats.behind(place, letter), amounts, many)

    def _look_at(self, letters, beat, amounts, many):
        """Looks at the beat behind these letters, ahead of which so many numbers were printed."""
        turn = stirred_turn(self.beats.modulus, beat, amounts)
        raised = [at for at, number in enumerate(turn.numbers_printed()) if number]
        if raised:
            self.hit = (letters, many + raised[0])
        elif beat.asks():
            hull = self._hulls.setdefault(beat.place, Hull(self.beats.modulus))
            if hull.take_in(turn.numbers_after()):
                self._standing.append((letters, beat.place, turn.numbers_after(), many + len(beat.prints)))
