"""Spaces of vectors that grow one by one."""

from truestops.vectors import inverse_of


class Hull:
    """All that the vectors taken in add up to. States are taken in with a 1 behind them: then sums are mixtures."""

    def __init__(self, modulus):
        self.modulus = modulus
        self._led = []

    def holds(self, vector):
        return not any(self._rest_of(vector))

    def take_in(self, vector):
        """Takes a vector in and returns whether it was not there yet."""
        rest = self._rest_of(vector)
        if not any(rest):
            return False
        place = 0
        while not rest[place]:
            place += 1
        if rest[place] != 1:
            scale = inverse_of(self.modulus, rest[place])
            rest = [number * scale % self.modulus for number in rest]
        self._led.append((place, rest))
        return True

    def _rest_of(self, vector):
        """What is left of a vector if all that is held is taken off at its leading places."""
        rest = vector
        for place, lead in self._led:
            factor = rest[place]
            if factor:
                rest = [(a - factor * b) % self.modulus for a, b in zip(rest, lead)]
        return rest
