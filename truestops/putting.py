"""Putting: rules by which variables are put to told numbers, also such as can only be put together."""

from truestops.benches import require_seat, require_true_mark
from truestops.books import require_bench_and_readings, seat_along
from truestops.engines import is_known_sum, state_of, sum_of, vector_of
from truestops.errors import InvalidAmounts, InvalidDump, InvalidRule, InvalidSum, UnknownHolder
from truestops.forms import is_state, is_sum
from truestops.reading import question_at
from truestops.seats import told_bar
from truestops.sights import factors_at
from truestops.vectors import basis_of, meeting, product_of
from truestops.walks import reckoned
from truestops.wishing import are_wishes


def is_list_of_unlike_strings(value):
    if type(value) is not list or not all([type(name) is str for name in value]):
        return False
    return len(set(value)) == len(value)


def require_put(bench, readings, mark, stop, names):
    require_bench_and_readings(bench, readings)
    require_seat(bench, mark, stop)
    if not is_list_of_unlike_strings(names):
        raise InvalidAmounts(names)
    variables = bench.joints.variables(stop)
    for name in names:
        if name not in variables:
            raise UnknownHolder(name)


class Put:
    """Variables of a seat that are to be put to told numbers."""

    def __init__(self, bench, readings, mark, stop, names):
        self.seat = seat_along(bench, readings, mark, stop)
        self.modulus = self.seat.modulus
        self.names = sorted(names)
        self.question = question_at(bench, mark, stop)
        self._places = [self.seat.variables.index(name) for name in self.names]

    def counted(self, factors):
        """How the variables that are put stand in a number that hangs so on all holders."""
        return [factors[place] for place in self._places]

    def counts(self):
        """The reduced basis of all that the numbers told count of the variables, as vectors."""
        return basis_of(self.modulus, [self.counted(seen.factors) for seen in self.seat.seen()])

    def count_of(self, factors):
        """What a number counts of them, as a sum."""
        return sum_of(self.counted(factors), self.names)

    def rule(self):
        """Any put rule, or None."""
        changes = [self.seat.change_for({name: 1}) for name in self.names]
        counts = self.counts()
        reads = [self.question.rule(sum_of(count, self.names)) for count in counts]
        if None in changes or None in reads:
            return None
        changes = [vector_of(change, self.seat.holders) for change in changes]
        # Each counted sum that is read is taken off by the changes of variables that come to 1 in it alone.
        lifts = [meeting(self.modulus, counts, unit, len(self.names)) for unit in units_of(len(counts))]
        found = {}
        for at, holder in enumerate(self.seat.holders):
            raised = [change[at] for change in changes]
            lowered = [product_of(self.modulus, lift, raised) for lift in lifts]
            wanted = self._sum_for(holder, raised, lowered, reads)
            if wanted != {holder: 1}:
                found[holder] = wanted
        return found

    def _sum_for(self, holder, raised, lowered, reads):
        """What a holder becomes: itself, raised by the told numbers, lowered by what is read."""
        total = {holder: 1}
        for factor, rule in zip(lowered, reads):
            for key, number in rule.items():
                total[key] = (total.get(key, 0) - factor * number) % self.modulus
        for name, factor in zip(self.names, raised):
            total["=" + name] = factor
        return sum_of(list(total.values()), list(total))

    def is_rule(self, value):
        if not is_put_form(self.modulus, value, self.seat.holders):
            return False
        told = ["=" + name for name in self.names]
        keys = self.seat.holders + [""]
        if not all([is_known_sum(self.modulus, wanted, keys + told) for wanted in value.values()]):
            return False
        by_told = [[value.get(holder, {}).get(key, 0) for holder in self.seat.holders] for key in told]
        moved = [moved_by(self.modulus, value, self.seat.holders, run) for run in self.question.runs]
        return all([self._holds(seen.factors, by_told, moved) for seen in self.seat.seen()])

    def _holds(self, factors, by_told, moved):
        """Whether a number is told alike: by each number that is put, and from each run by what it takes off."""
        mine, theirs = self.seat.parted(factors)
        counted = self.counted(factors)
        if [product_of(self.modulus, theirs, vector) for vector in by_told] != counted:
            return False
        for run, vector in zip(self.question.runs, moved):
            taken_off = product_of(self.modulus, counted, self.counted(run.variables))
            if (taken_off + product_of(self.modulus, theirs, vector)) % self.modulus:
                return False
        return True

    def paper(self):
        """What shows that there is no put rule, or None."""
        for name in self.names:
            bar = told_bar(self.modulus, self.seat.equations({name: 1}), len(self.seat.holders))
            if bar is not None:
                return ("move", name, bar)
        for seen in self.seat.seen():
            runs = self.question.paper(self.count_of(seen.factors))
            if runs is not None:
                return ("read", list(seen.letters), seen.position, runs)
        return None

    def is_paper(self, value):
        if type(value) is not tuple or len(value) not in (3, 4) or type(value[0]) is not str:
            return False
        if value[0] == "move" and len(value) == 3:
            return value[1] in self.names and self.seat.is_bar({value[1]: 1}, value[2])
        if value[0] != "read" or len(value) != 4:
            return False
        factors = factors_at(self.seat.joints, self.seat.place, value[1], value[2])
        return factors is not None and self.question.is_paper(self.count_of(factors), value[3])


def units_of(many):
    return [[int(at == place) for place in range(many)] for at in range(many)]


def moved_by(prime, rule, holders, run):
    """By how much a put rule raises each holder in a run if all told numbers are 0."""
    numbers = run.holders + [1]
    found = []
    for at, holder in enumerate(holders):
        factors = vector_of(rule.get(holder, {holder: 1}), holders + [""])
        found.append((product_of(prime, factors, numbers) - run.holders[at]) % prime)
    return found


def is_put_form(prime, value, holders):
    """Whether any object is a dictionary from some of these holders to sums of whatever."""
    if type(value) is not dict or not all([holder in holders for holder in value]):
        return False
    return all([is_sum(prime, wanted) for wanted in value.values()])


def put_rule(bench, readings, mark, stop, names):
    require_put(bench, readings, mark, stop, names)
    return Put(bench, readings, mark, stop, names).rule()


def is_put_rule(bench, readings, mark, stop, names, value):
    require_put(bench, readings, mark, stop, names)
    return Put(bench, readings, mark, stop, names).is_rule(value)


def counted_sums(bench, readings, mark, stop, names):
    require_put(bench, readings, mark, stop, names)
    put = Put(bench, readings, mark, stop, names)
    return [sum_of(count, put.names) for count in put.counts()]


def why_unput(bench, readings, mark, stop, names):
    require_put(bench, readings, mark, stop, names)
    return Put(bench, readings, mark, stop, names).paper()


def is_why_unput(bench, readings, mark, stop, names, value):
    require_put(bench, readings, mark, stop, names)
    return Put(bench, readings, mark, stop, names).is_paper(value)


def told_in(rule):
    """The ascending list of the variables whose told numbers a put rule asks for."""
    found = {}
    for wanted in rule.values():
        for key in wanted:
            if key.startswith("="):
                found[key[1:]] = True
    return sorted(found)


def is_put_rule_of_any(prime, value, holders):
    """Whether any object is a put rule of these holders, of whatever variables."""
    if not is_put_form(prime, value, holders):
        return False
    keys = holders + [""]
    for wanted in value.values():
        if not all([key in keys or (key.startswith("=") and key != "=") for key in wanted]):
            return False
    return True


def require_numbers(bench, mark, rule, holders, wishes):
    require_true_mark(bench, mark)
    prime = bench.rows().prime()
    living = bench.joints.holders(mark)
    if not is_put_rule_of_any(prime, rule, living):
        raise InvalidRule(rule)
    if not is_state(prime, holders, living):
        raise InvalidDump(holders)
    if not are_wishes(prime, wishes):
        raise InvalidSum(wishes)
    for name in told_in(rule):
        if name not in wishes:
            raise UnknownHolder(name)


def put_numbers(bench, mark, rule, holders, wishes):
    require_numbers(bench, mark, rule, holders, wishes)
    prime = bench.rows().prime()
    numbers = {"=" + name: wishes[name] for name in wishes}
    numbers.update(holders)
    living = bench.joints.holders(mark)
    return state_of(living, [reckoned(prime, rule.get(holder, {holder: 1}), numbers) for holder in living])
