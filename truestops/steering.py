"""What a session knows where it stands at a mark, and by which stir it puts variables to told numbers."""

from truestops.engines import sum_of, vector_of
from truestops.fitting import sure_question
from truestops.joints import Joints
from truestops.reading import question_at, readable_vectors
from truestops.seats import Seat
from truestops.vectors import basis_of, meeting, product_of


def question_for(bench, seat, exchanged):
    """Asks in all runs or, since an exchange, in all states that fit."""
    return sure_question(bench, seat[0], seat[1]) if exchanged else question_at(bench, seat[0], seat[1])


class Knowing:
    """What can be read where a session stands, in the program behind all moves."""

    def __init__(self, standing):
        _, mark, stop = standing.here
        self._standing = standing
        self._question = question_for(standing.bench, (mark, stop), standing.exchanged)

    def number_of(self, wanted):
        """The number of a sum, or None if it cannot be known."""
        rule = self._question.rule(wanted)
        if rule is None:
            return None
        standing = self._standing
        modulus = standing.modulus()
        number = product_of(modulus, vector_of(rule, standing.holders() + [""]), standing.base + [1])
        return (number + product_of(modulus, vector_of(wanted, standing.variables()), standing.stirs)) % modulus


def joints_with_all(bench, exchanged):
    """The joint beats of a bench with all that can be read at marks among what is told, made once.

    By which rules it is read means nothing here: what the rows tell of it is left out.
    """
    if exchanged not in bench.known:
        table = {}
        for seat in bench.passings.true_seats():
            nought = [0] * len(bench.joints.holders(seat[0]))
            vectors = readable_vectors(question_for(bench, seat, exchanged))
            table[seat] = [(vector, nought) for vector in vectors]
        bench.known[exchanged] = Joints(bench.program(), bench.rows(), bench.passings, table)
    return bench.known[exchanged]


def counts_at(standing, names):
    """The reduced basis of what all that is printed on, or can be read here or later, counts of some variables."""
    _, mark, stop = standing.here
    seat = Seat(joints_with_all(standing.bench, standing.exchanged), mark, stop)
    places = [seat.variables.index(name) for name in names]
    return basis_of(seat.modulus, [[seen.factors[place] for place in places] for seen in seat.seen()])


def stir_for(standing, wishes):
    """Any stir behind which all is as if these variables had the told numbers; None if that cannot be had truly."""
    _, mark, stop = standing.here
    seat = Seat(standing.bench.joints, mark, stop)
    names = sorted(wishes)
    if None in [seat.change_for({name: 1}) for name in names]:
        return None
    counts = counts_at(standing, names)
    knowing = Knowing(standing)
    numbers = [knowing.number_of(sum_of(count, names)) for count in counts]
    if None in numbers:
        return None
    modulus = standing.modulus()
    told = vector_of(wishes, names)
    aims = [(product_of(modulus, count, told) - number) % modulus for count, number in zip(counts, numbers)]
    return sum_of(meeting(modulus, counts, aims, len(names)), names)
