"""Reading variables of the program off the holders of the rows at a mark, and notes of what cannot be read."""

from truestops.benches import (
    is_rule_for,
    mark_keys,
    require_seat,
    require_true_mark,
    rule_for,
)
from truestops.engines import holders_there, require_sum, sum_of, vector_of
from truestops.errors import InvalidSum, NeverPassed
from truestops.forms import is_count, is_factor
from truestops.hulls import Hull
from truestops.lasts import last_beat
from truestops.passings import Run
from truestops.pasts import Past
from truestops.vectors import added_up, basis_of, columns_of, crossing, eliminated, factors_for, product_of


def variables_at(bench, stop):
    return holders_there(bench.program(), stop)


def require_wanted(bench, stop, wanted):
    require_sum(bench.program().prime(), wanted, variables_at(bench, stop))


def require_reading(bench, mark, stop, wanted):
    require_seat(bench, mark, stop)
    require_wanted(bench, stop, wanted)


class Present:
    """Runs to a mark at a stop, with the numbers of the variables there."""

    def __init__(self, bench, mark, stop):
        self.bench = bench
        self._mark = mark
        self._stop = stop

    def base_runs(self):
        return self.bench.passings.runs_to(self._mark, self._stop)

    def run_on(self, inputs):
        """The run on any inputs if its last beat passes the mark so, else None."""
        last = last_beat(self.bench, inputs)
        holders = None if last is None else last.holders(self._mark)
        variables = None if holders is None else last.variables(self._stop)
        if variables is None:
            return None
        return Run(inputs, variables, holders)


class Question:
    """Asks for the number that a sum of the variables at a stop has, or had, in all runs of a kind to a mark.

    The kind is told by an object, Present or Past, with the runs of which all others are mixtures.
    """

    def __init__(self, kind, mark, stop):
        self.kind = kind
        self.bench = kind.bench
        self.mark = mark
        self.modulus = self.bench.rows().prime()
        self.names = variables_at(self.bench, stop) + [""]
        self.runs = kind.base_runs()

    def number_in(self, run, wanted):
        return product_of(self.modulus, vector_of(wanted, self.names), run.variables + [1])

    def numbers_in_runs(self, wanted):
        return [self.number_in(run, wanted) for run in self.runs]

    def rule(self, wanted):
        return rule_for(self.bench, self.mark, self.runs, self.numbers_in_runs(wanted))

    def are_known(self):
        """Whether each variable, by itself, has a rule."""
        width = len(self.runs[0].holders) + 1
        vectors = [run.holders + [1] + run.variables for run in self.runs]
        table, led = eliminated(self.modulus, vectors, width)
        # Where the holders and 1 add up to nothing each variable that they tell has to do so, too.
        left = table[len(led):]
        return [not any([row[at] for row in left]) for at in range(width, len(vectors[0]))]

    def is_rule(self, wanted, value):
        return is_rule_for(self.bench, self.mark, self.runs, self.numbers_in_runs(wanted), value)

    def paper(self, wanted):
        """Runs with factors that show that there is no rule; None if there is one."""
        hull = Hull(self.modulus)
        base = []
        for run in self.runs:
            if hull.take_in(run.holders + [1]):
                base.append(run)
        vectors = [run.holders + [1] for run in base]
        numbers = [self.number_in(run, wanted) for run in base]
        for run in self.runs:
            # By the holders each run is a mixture of the base; a rule would have to be one by the number, too.
            factors = factors_for(self.modulus, vectors, run.holders + [1])
            if product_of(self.modulus, factors, numbers) != self.number_in(run, wanted):
                told = [(list(one.inputs), self.modulus - factor) for one, factor in zip(base, factors) if factor]
                return [(list(run.inputs), 1)] + told
        return None

    def is_paper(self, wanted, value):
        most = len(mark_keys(self.bench, self.mark)) + 1
        if not are_weights(self.modulus, value) or not 1 <= len(value) <= most:
            return False
        runs = [self.kind.run_on(inputs) for inputs, _ in value]
        if None in runs or has_doubles([inputs for inputs, _ in value]):
            return False
        factors = [factor for _, factor in value]
        if any(added_up(self.modulus, [run.holders + [1] for run in runs], factors, most - 1)):
            return False
        return product_of(self.modulus, factors, [self.number_in(run, wanted) for run in runs]) != 0


def are_weights(prime, value):
    """Whether any object is a list of tuples of something and a factor."""
    if type(value) is not list or not all([type(item) is tuple and len(item) == 2 for item in value]):
        return False
    return all([is_factor(prime, factor) for _, factor in value])


def has_doubles(things):
    return any([thing in things[:at] for at, thing in enumerate(things)])


def question_at(bench, mark, stop):
    return Question(Present(bench, mark, stop), mark, stop)


def read_rule(bench, mark, stop, wanted):
    require_reading(bench, mark, stop, wanted)
    return question_at(bench, mark, stop).rule(wanted)


def is_read_rule(bench, mark, stop, wanted, value):
    require_reading(bench, mark, stop, wanted)
    return question_at(bench, mark, stop).is_rule(wanted, value)


def read_runs(bench, mark, stop, wanted):
    require_reading(bench, mark, stop, wanted)
    return question_at(bench, mark, stop).paper(wanted)


def are_read_runs(bench, mark, stop, wanted, value):
    require_reading(bench, mark, stop, wanted)
    return question_at(bench, mark, stop).is_paper(wanted, value)


def readable_vectors(question):
    """The reduced basis of all sums of the variables that a question has a rule for, as vectors."""
    vectors = [run.variables + run.holders + [1] for run in question.runs]
    many = len(question.runs[0].variables)
    # What is 0 in all runs tells a sum of variables by holders and 1.
    always_zero = crossing(question.modulus, vectors, len(vectors[0]))
    return basis_of(question.modulus, [zero[:many] for zero in always_zero])


def readable(bench, mark, stop):
    require_seat(bench, mark, stop)
    vectors = readable_vectors(question_at(bench, mark, stop))
    return [sum_of(vector, variables_at(bench, stop)) for vector in vectors]


def require_sums(bench, mark, stop, sums):
    require_seat(bench, mark, stop)
    if type(sums) is not list:
        raise InvalidSum(sums)
    for wanted in sums:
        require_wanted(bench, stop, wanted)


def hull_of_holders(question):
    """What can be read at the mark, told by the numbers in all runs: sums of the holders and 1."""
    hull = Hull(question.modulus)
    vectors = [run.holders + [1] for run in question.runs]
    for column in columns_of(vectors, len(vectors[0])):
        hull.take_in(column)
    return hull


def notes_needed(question, sums):
    hull = hull_of_holders(question)
    found = []
    for at, wanted in enumerate(sums):
        if hull.take_in(question.numbers_in_runs(wanted)):
            found.append(at)
    return found


def notes(bench, mark, stop, sums):
    require_sums(bench, mark, stop, sums)
    return notes_needed(question_at(bench, mark, stop), sums)


def are_notes(bench, mark, stop, sums, value):
    require_sums(bench, mark, stop, sums)
    if type(value) is not list or not all([is_count(at) and at < len(sums) for at in value]):
        return False
    if any([value[at - 1] >= value[at] for at in range(1, len(value))]):
        return False
    question = question_at(bench, mark, stop)
    if len(value) != len(notes_needed(question, sums)):
        return False
    hull = hull_of_holders(question)
    # As many as have to be noted are enough only if none of them can be told by what is ahead of it.
    return all([hull.take_in(question.numbers_in_runs(sums[at])) for at in value])


def past_question(bench, earlier, stop, mark, wanted):
    """The question for a number at an earlier mark, behind all errors of its arguments."""
    require_seat(bench, earlier, stop)
    require_true_mark(bench, mark)
    key = (earlier, stop, mark)
    if key not in bench.pasts:
        bench.pasts[key] = Question(Past(bench, earlier, stop, mark), mark, stop)
    question = bench.pasts[key]
    if not question.runs:
        raise NeverPassed(mark)
    require_wanted(bench, stop, wanted)
    return question


def past_rule(bench, earlier, stop, mark, wanted):
    return past_question(bench, earlier, stop, mark, wanted).rule(wanted)


def is_past_rule(bench, earlier, stop, mark, wanted, value):
    return past_question(bench, earlier, stop, mark, wanted).is_rule(wanted, value)


def past_runs(bench, earlier, stop, mark, wanted):
    return past_question(bench, earlier, stop, mark, wanted).paper(wanted)


def are_past_runs(bench, earlier, stop, mark, wanted, value):
    return past_question(bench, earlier, stop, mark, wanted).is_paper(wanted, value)
