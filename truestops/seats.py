"""Seats: a mark and a stop that is passed with it; which changes of the rows show there what stirs of the program show.

What is told is taken from the joint sight: the numbers of all goings-on are put together of finitely many, so equations
for these hold for all.
"""

from truestops.engines import sum_of, vector_of
from truestops.forms import is_factor, is_stir
from truestops.hulls import Hull
from truestops.sights import factors_at, seen_from
from truestops.vectors import basis_of, columns_of, crossing, meeting, product_of


class Equation:
    """What a change has to show in one number: by the factors of the rows' holders, the number that is due."""

    def __init__(self, stop, seen, factors, due):
        self.stop = stop
        self.seen = seen
        self.factors = factors
        self.due = due


class Seat:
    """A mark at a stop, with what is told from there on."""

    def __init__(self, joints, mark, stop):
        self.joints = joints
        self.modulus = joints.modulus
        self.stop = stop
        self.place = (mark, stop)
        self.variables = joints.variables(stop)
        self.holders = joints.holders(mark)

    def seen(self):
        return seen_from(self.joints, self.place)

    def parted(self, factors):
        """Joint factors as a tuple: those of the program's holders, those of the rows'."""
        return (factors[:len(self.variables)], factors[len(self.variables):])

    def equations(self, stir):
        amounts = vector_of(stir, self.variables)
        found = []
        for seen in self.seen():
            mine, theirs = self.parted(seen.factors)
            found.append(Equation(self.stop, seen, theirs, product_of(self.modulus, mine, amounts)))
        return found

    def change_for(self, stir):
        """Any change that shows what a stir shows, or None."""
        return change_by(self.modulus, self.equations(stir), self.holders)

    def is_change_for(self, stir, value):
        return is_change_by(self.modulus, self.equations(stir), self.holders, value)

    def stirs_with_changes(self):
        """The reduced basis of all stirs that have a change, as vectors."""
        many = len(self.variables)
        vectors = []
        for seen in self.seen():
            mine, theirs = self.parted(seen.factors)
            vectors.append(mine + [-factor % self.modulus for factor in theirs])
        both = crossing(self.modulus, vectors, many + len(self.holders))
        return basis_of(self.modulus, [vector[:many] for vector in both])

    def movable(self):
        return [sum_of(vector, self.variables) for vector in self.stirs_with_changes()]

    def weighed(self, stir, value):
        """What the numbers told by tuples (going_on, position, factor) add up to: how they hang on the holders of the
        rows and, behind, what the stir makes of them. None for anything else."""
        amounts = vector_of(stir, self.variables)
        total = [0] * (len(self.holders) + 1)
        if type(value) is not list or not all([type(item) is tuple and len(item) == 3 for item in value]):
            return None
        for going_on, position, factor in value:
            factors = factors_at(self.joints, self.place, going_on, position)
            if factors is None or not is_factor(self.modulus, factor):
                return None
            mine, theirs = self.parted(factors)
            told = theirs + [product_of(self.modulus, mine, amounts)]
            total = [(a + factor * b) % self.modulus for a, b in zip(total, told)]
        return total

    def is_bar(self, stir, value):
        """Whether any object is a list that shows that no change shows what a stir shows."""
        return self.weighed(stir, value) == [0] * len(self.holders) + [1]


def is_change(prime, value, holders):
    """Whether any object is a change of these holders."""
    return is_stir(prime, value) and all([holder in holders for holder in value])


def change_by(prime, equations, holders):
    """Any change for which equations hold, or None."""
    rows = [equation.factors for equation in equations]
    vector = meeting(prime, rows, [equation.due for equation in equations], len(holders))
    return None if vector is None else sum_of(vector, holders)


def is_change_by(prime, equations, holders, value):
    if not is_change(prime, value, holders):
        return False
    amounts = vector_of(value, holders)
    return all([product_of(prime, equation.factors, amounts) == equation.due for equation in equations])


def bar_by(prime, equations, width):
    """Tuples (equation, factor) that show that no change of so many holders meets the equations; None if one does."""
    hull = Hull(prime)
    base = []
    for equation in equations:
        if hull.take_in(equation.factors + [equation.due]):
            base.append(equation)
    columns = columns_of([equation.factors + [equation.due] for equation in base], width + 1)
    factors = meeting(prime, columns, [0] * width + [1], len(base))
    if factors is None:
        return None
    return [(equation, factor) for equation, factor in zip(base, factors) if factor]


def told_bar(prime, equations, width):
    """A bar as its tuples (going_on, position, factor), or None."""
    bar = bar_by(prime, equations, width)
    if bar is None:
        return None
    return [(list(equation.seen.letters), equation.seen.position, factor) for equation, factor in bar]
