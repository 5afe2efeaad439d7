"""Tours: all inputs in order, as far as they have to be gone through, of one engine or of two side by side.

A run whose state is a mixture of earlier ones at the same place shows nothing new: whatever letters follow, all that
comes is the same mixture of what came behind the earlier ones. So only runs in new states are gone on from.
"""

from truestops.beats import letters_to_try, number_of
from truestops.hulls import Hull


class Turn:
    """One beat of one engine with the numbers of its inlet."""

    def __init__(self, modulus, beat, inlet):
        self.modulus = modulus
        self.beat = beat
        # Most numbers are 0; only the others count.
        self._counting = [(at, number) for at, number in enumerate(inlet) if number]
        self._after = None

    def reckoned(self, vectors):
        counting = self._counting
        return [sum([vector[at] * number for at, number in counting]) % self.modulus for vector in vectors]

    def numbers_printed(self):
        return self.reckoned(self.beat.prints)

    def numbers_after(self):
        """The numbers of all that lives where the beat ends. Callers do not change the list."""
        if self._after is None:
            self._after = self.reckoned(self.beat.after)
        return self._after

    def comes_by(self, where):
        return any([passed == where for passed, _, _ in self.beat.passes])

    def numbers_at(self, where):
        """The numbers of the holders that live where it passes this, or None if it does not."""
        for passed, vectors, _ in self.beat.passes:
            if passed == where:
                return self.reckoned(vectors)
        return None


def first_turn(beats):
    return Turn(beats.modulus, beats.first(), [0, 1])


def next_turn(beats, place, numbers, letter):
    """The turn behind a letter at an asking place where the holders hold these numbers."""
    return Turn(beats.modulus, beats.behind(place, letter), numbers + [number_of(letter), 1])


def turn_behind(beats, turn, letter):
    """The turn behind a letter that is given behind one."""
    return Turn(beats.modulus, beats.next_beat(turn.beat, letter), turn.numbers_after() + [number_of(letter), 1])


def print_alike(turns):
    """Whether engines print the same numbers in their turns and ask the same behind them, or end."""
    first = turns[0]
    printed = first.numbers_printed()
    for turn in turns[1:]:
        if turn.beat.asked != first.beat.asked or turn.numbers_printed() != printed:
            return False
    return True


class Going:
    """Inputs that were gone through, the turns of the engines behind the last letter, and whether these are alike."""

    def __init__(self, inputs, turns):
        self.inputs = inputs
        self.turns = turns
        self.alike = print_alike(turns)
        self.fresh = False

    def asks(self):
        return self.turns[0].beat.asks()

    def places(self):
        return tuple([turn.beat.place for turn in self.turns])

    def joint_after(self):
        """The numbers of all holders where the engines stand behind the beat."""
        return [number for turn in self.turns for number in turn.numbers_after()]


def first_going(all_beats):
    return Going([], [first_turn(beats) for beats in all_beats])


def going_behind(all_beats, going, letter):
    """The going behind one that asks, with a letter more that fits."""
    turns = [turn_behind(beats, turn, letter) for beats, turn in zip(all_beats, going.turns)]
    return Going(going.inputs + [letter], turns)


def goings_behind(all_beats, going):
    """The goings behind one that asks of which all others are mixtures."""
    return [going_behind(all_beats, going, letter) for letter in letters_to_try(going.turns[0].beat.asked)]


class Tour:
    """The goings of all inputs that have to be gone through, in order; the kept ones among them; the first parting.

    What is passed and asked hangs on the beats alone. A going is fresh if none ahead of it has made its beats.
    """

    def __init__(self, all_beats):
        self.modulus = all_beats[0].modulus
        self.goings = []
        self.kept = []
        self.parting = None
        self._hulls = {}
        # The positions of the goings, by the numbers of the beats that they make.
        self.by_beats = {}
        self._go_through(first_going(all_beats))
        at = 0
        while at < len(self.kept):
            behind = goings_behind(all_beats, self.kept[at])
            for going in behind:
                self._go_through(going)
            at += 1

    def _go_through(self, going):
        self.goings.append(going)
        made = tuple([turn.beat.number for turn in going.turns])
        going.fresh = made not in self.by_beats
        if going.fresh:
            self.by_beats[made] = []
        self.by_beats[made].append(len(self.goings) - 1)
        if not going.alike:
            if self.parting is None:
                self.parting = going
        elif going.asks():
            spots = tuple([turn.beat.spot for turn in going.turns])
            if spots not in self._hulls:
                self._hulls[spots] = Hull(self.modulus)
            if self._hulls[spots].take_in(going.joint_after() + [1]):
                self.kept.append(going)


def lone_tour(beats):
    """The tour of one engine, made once."""
    if beats.tour is None:
        beats.tour = Tour([beats])
    return beats.tour
