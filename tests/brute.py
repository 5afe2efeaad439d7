"""All inputs of few letters, gone through one by one with the second reckonings, and engines to try them on."""

from tests.machines import ChanceRows, all_inputs, told_of_program, told_of_rows
from tests.oracle import Chance
from truestops.errors import Fault, Unsound
from truestops.numbers import solved
from truestops.programs import Program
from truestops.rows import Rows


class Engine:
    """A program or rows, with its parts, and what it does by the second reckoning."""

    def __init__(self, parts, is_program):
        self.parts = parts
        self.prime = parts[0]
        self.is_program = is_program
        self.engine = Program(*parts) if is_program else Rows(*parts)

    def told(self, inputs, stirred=None):
        return (told_of_program if self.is_program else told_of_rows)(self.parts, inputs, stirred)

    def printed_from(self, where, inputs, going_on, stir):
        """All numbers from a place on, which the inputs pass in their last beat, stirred there."""
        many = self.told(inputs).at(where)[1]
        told = self.told(inputs + going_on, (where, len(inputs), stir))
        return told.beats[len(inputs)][many:] + [n for beat in told.beats[len(inputs) + 1:] for n in beat]

    def inputs(self, most):
        return all_inputs(self.told, self.prime, most)


def chance_engines(seeds, prime):
    """Programs and rows of a prime, in turns, as far as the seeds make some."""
    for seed in seeds:
        try:
            if seed % 2:
                chance = Chance(seed)
                chance.prime = prime
                yield Engine(chance.program(), True)
            else:
                yield Engine(ChanceRows(seed, prime).parts(), False)
        except (Fault, Unsound):
            continue


def is_mixture_of(prime, numbers, others):
    return solved(prime, [other + [1] for other in others], numbers + [1]) is not None if others else False


def kept_of(prime, told):
    """Of tuples (something, numbers) those whose numbers are no mixture of the kept ones ahead."""
    kept = []
    for thing, numbers in told:
        if not is_mixture_of(prime, numbers, [other for _, other in kept]):
            kept.append((thing, numbers))
    return kept
