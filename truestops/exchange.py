"""Exchange: runs that go on in other rows, from every state that goes on alike, and papers where no rule does that."""

from truestops.benches import require_seat
from truestops.engines import is_known_sum, require_sum, sum_of, vector_of
from truestops.errors import InvalidLinks, InvalidRule, InvalidSeat, InvalidState, UnlikePrimes
from truestops.fitting import fitting_at, sure_question
from truestops.forms import is_factor, is_state, is_sum, require_prime
from truestops.naming import is_row_holder
from truestops.passings import Run
from truestops.sights import factors_at
from truestops.vectors import added_up, columns_of, crossing, middle_of, product_of


def require_a_seat(value):
    if type(value) is not tuple or len(value) != 3:
        raise InvalidSeat(value)
    require_seat(value[0], value[1], value[2])


def fitting_of(seat):
    return fitting_at(seat[0], seat[1], seat[2])


def require_two_seats(one, other):
    require_a_seat(one)
    require_a_seat(other)
    if one[0].rows().prime() != other[0].rows().prime():
        raise UnlikePrimes(other)


def are_links(one, other, links):
    if links is None:
        return one[2] == other[2] and one[0].program() == other[0].program()
    there = other[0].joints.variables(other[2])
    if type(links) is not dict or len(links) != len(there):
        return False
    keys = one[0].joints.variables(one[2]) + [""]
    prime = one[0].rows().prime()
    return all([holder in links and is_known_sum(prime, links[holder], keys) for holder in there])


def require_links(one, other, links):
    require_two_seats(one, other)
    if not are_links(one, other, links):
        raise InvalidLinks(links)


def fits(one, state):
    require_a_seat(one)
    fitting = fitting_of(one)
    if not is_state(fitting.modulus, state, fitting.seat.variables + fitting.seat.holders):
        raise InvalidState(state)
    return fitting.holds(state)


class Exchange:
    """Two seats and links: what the rows of the other one have to be, given those of the one.

    For each number printed on from the other seat, and each state that fits, `dues` tells what its rows' holders have
    to add up to there: it is 0 at a run of the other seat that both its engines are left in.
    """

    def __init__(self, one, other, links):
        self.fitting = fitting_of(one)
        self.other = fitting_of(other)
        self.modulus = self.fitting.modulus
        keys = self.fitting.seat.variables + [""]
        if links is None:
            links = {holder: {holder: 1} for holder in self.other.seat.variables}
        self._links = [vector_of(links[holder], keys) for holder in self.other.seat.variables]

    def linked(self, run):
        return [product_of(self.modulus, vector, run.variables + [1]) for vector in self._links]

    def due(self, factors, run):
        """What the holders of the other rows have to add up to in a number, from a state of the one."""
        mine, theirs = self.other.seat.parted(factors)
        base = self.other.run
        number = product_of(self.modulus, mine, self.linked(run)) - product_of(self.modulus, mine, base.variables)
        return (number + product_of(self.modulus, theirs, base.holders)) % self.modulus

    def seen(self):
        return self.other.seat.seen()

    def theirs(self):
        """The factors of the other rows' holders in all numbers."""
        return [self.other.seat.parted(seen.factors)[1] for seen in self.seen()]

    def rule(self):
        runs = self.fitting.base_runs()
        keys = self.fitting.seat.holders + [""]
        known = columns_of([run.holders + [1] for run in runs], len(keys))
        dues = [[self.due(seen.factors, run) for run in runs] for seen in self.seen()]
        holders = self.other.seat.holders
        found = middle_of(self.modulus, self.theirs(), known, dues, len(holders), len(runs))
        if found is None:
            return None
        return {holder: sum_of(vector, keys) for holder, vector in zip(holders, found)}

    def is_rule(self, value):
        holders = self.other.seat.holders
        keys = self.fitting.seat.holders + [""]
        if type(value) is not dict or len(value) != len(holders):
            return False
        if not all([holder in value and is_known_sum(self.modulus, value[holder], keys) for holder in holders]):
            return False
        vectors = [vector_of(value[holder], keys) for holder in holders]
        for run in self.fitting.base_runs():
            put = [product_of(self.modulus, vector, run.holders + [1]) for vector in vectors]
            for seen, theirs in zip(self.seen(), self.theirs()):
                if product_of(self.modulus, theirs, put) != self.due(seen.factors, run):
                    return False
        return True

    def paper(self):
        """What shows that there is no rule, or None."""
        runs = self.fitting.base_runs()
        paper = self._behind(runs)
        return self._ahead(runs) if paper is None else paper

    def _behind(self, runs):
        """Numbers in which the holders of the other rows drop out, while from some state more is due than nothing."""
        seen, theirs = self.seen(), self.theirs()
        for factors in crossing(self.modulus, columns_of(theirs, len(self.other.seat.holders)), len(seen)):
            for run in runs:
                if product_of(self.modulus, factors, [self.due(one.factors, run) for one in seen]):
                    told = [(list(one.letters), one.position, factor) for one, factor in zip(seen, factors) if factor]
                    return ("behind", self.fitting.state_of(run), told)
        return None

    def _ahead(self, runs):
        """States in which the holders of the one rows add up to nothing, while in some number more is due."""
        known = columns_of([run.holders + [1] for run in runs], len(self.fitting.seat.holders) + 1)
        for factors in crossing(self.modulus, known, len(runs)):
            for one in self.seen():
                if product_of(self.modulus, factors, [self.due(one.factors, run) for run in runs]):
                    told = [(self.fitting.state_of(run), factor) for run, factor in zip(runs, factors) if factor]
                    return ("ahead", told, list(one.letters), one.position)
        return None

    def is_paper(self, value):
        if type(value) is not tuple or not value or type(value[0]) is not str:
            return False
        if value[0] == "behind" and len(value) == 3:
            return self._is_behind(value[1], value[2])
        return value[0] == "ahead" and len(value) == 4 and self._is_ahead(value[1], value[2], value[3])

    def _fitting_run(self, state):
        """A state that fits as its numbers; None for anything else."""
        seat = self.fitting.seat
        if not is_state(self.modulus, state, seat.variables + seat.holders) or not self.fitting.holds(state):
            return None
        return Run(None, vector_of(state, seat.variables), vector_of(state, seat.holders))

    def _is_behind(self, state, numbers):
        run = self._fitting_run(state)
        if run is None or type(numbers) is not list:
            return False
        if not all([type(item) is tuple and len(item) == 3 and is_factor(self.modulus, item[2]) for item in numbers]):
            return False
        seat = self.other.seat
        found = [factors_at(seat.joints, seat.place, going_on, position) for going_on, position, _ in numbers]
        if None in found:
            return False
        factors = [item[2] for item in numbers]
        if any(added_up(self.modulus, [seat.parted(one)[1] for one in found], factors, len(seat.holders))):
            return False
        return product_of(self.modulus, factors, [self.due(one, run) for one in found]) != 0

    def _is_ahead(self, states, going_on, position):
        seat = self.other.seat
        number = factors_at(seat.joints, seat.place, going_on, position)
        if number is None or type(states) is not list:
            return False
        if not all([type(item) is tuple and len(item) == 2 and is_factor(self.modulus, item[1]) for item in states]):
            return False
        runs = [self._fitting_run(state) for state, _ in states]
        if None in runs:
            return False
        factors = [factor for _, factor in states]
        vectors = [run.holders + [1] for run in runs]
        if any(added_up(self.modulus, vectors, factors, len(self.fitting.seat.holders) + 1)):
            return False
        return product_of(self.modulus, factors, [self.due(number, run) for run in runs]) != 0


def exchange_rule(one, other, links):
    require_links(one, other, links)
    return Exchange(one, other, links).rule()


def is_exchange_rule(one, other, links, value):
    require_links(one, other, links)
    return Exchange(one, other, links).is_rule(value)


def missed(one):
    require_a_seat(one)
    bench, mark, stop = one
    for going in bench.passings.tour.goings:
        if going.turns[0].comes_by(stop) and not going.turns[1].comes_by(mark):
            return list(going.inputs)
    return None


def why_no_exchange(one, other, links):
    require_links(one, other, links)
    return Exchange(one, other, links).paper()


def is_why_no_exchange(one, other, links, value):
    require_links(one, other, links)
    return Exchange(one, other, links).is_paper(value)


def require_sure(one, wanted):
    require_a_seat(one)
    require_sum(one[0].rows().prime(), wanted, one[0].joints.variables(one[2]))


def sure_rule(one, wanted):
    require_sure(one, wanted)
    return sure_question(one[0], one[1], one[2]).rule(wanted)


def is_sure_rule(one, wanted, value):
    require_sure(one, wanted)
    return sure_question(one[0], one[1], one[2]).is_rule(wanted, value)


def is_sum_of_row_holders(prime, value):
    return is_sum(prime, value) and all([key == "" or is_row_holder(key) for key in value])


def is_rule_of_exchange(prime, value):
    """Whether any object is a dictionary from holders of some rows to sums of holders of some rows."""
    if type(value) is not dict or not all([is_row_holder(holder) for holder in value]):
        return False
    return all([is_sum_of_row_holders(prime, wanted) for wanted in value.values()])


def is_done_behind(first, second):
    """Whether a rule asks for nothing but what another one gives."""
    return all([key == "" or key in first for wanted in second.values() for key in wanted])


def chained_sum(prime, first, wanted):
    total = {"": wanted.get("", 0)}
    for holder, factor in wanted.items():
        if holder:
            for key, number in first[holder].items():
                total[key] = (total.get(key, 0) + factor * number) % prime
    return sum_of(list(total.values()), list(total))


def chained(prime, first, second):
    require_prime(prime)
    if not is_rule_of_exchange(prime, first):
        raise InvalidRule(first)
    if not is_rule_of_exchange(prime, second) or not is_done_behind(first, second):
        raise InvalidRule(second)
    return {holder: chained_sum(prime, first, second[holder]) for holder in sorted(second)}
