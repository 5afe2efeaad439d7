"""Guided runs of one engine: letter by letter, with the holders raised where a stop or a mark is passed."""

from truestops.engines import vector_of
from truestops.tours import Turn, first_turn, next_turn


class Guide:
    """A run that stands in a beat. `turn` is what is left of it, `told` what was printed ahead of that, by beats."""

    def __init__(self, engine):
        self.flow = engine.flow
        self.beats = engine.beats
        self.modulus = engine.flow.modulus
        self.turn = first_turn(self.beats)
        self.told = [[]]

    def come_to(self, where, stir, amount):
        """Goes on to what is passed in what is left of the beat, and raises what lives there."""
        place = self.flow.passing_places[where]
        raised = vector_of(stir, self.flow.living(place))
        many = [count for passed, _, count in self.turn.beat.passes if passed == where][0]
        numbers = self.turn.numbers_at(where)
        self.told[-1].extend(self.turn.numbers_printed()[:many])
        inlet = [(a + amount * b) % self.modulus for a, b in zip(numbers, raised)] + [0, 1]
        self.turn = Turn(self.modulus, self.beats.rest(place), inlet)

    def answer(self, letter):
        self.told[-1].extend(self.turn.numbers_printed())
        self.told.append([])
        self.turn = next_turn(self.beats, self.turn.beat.place, self.turn.numbers_after(), letter)

    def all_printed(self):
        return self.told[:-1] + [self.told[-1] + self.turn.numbers_printed()]
