"""Sums of vectors by a prime. Nothing is checked here: callers have done so."""


def inverse_of(prime, number):
    """The number that times this one is 1: what is left of the prime and it is taken off each other down to 1."""
    greater, less = prime, number
    known, found = 0, 1
    while less > 1:
        times = greater // less
        greater, less = less, greater - times * less
        known, found = found, known - times * found
    return found % prime


def product_of(prime, one, other):
    return sum([a * b for a, b in zip(one, other)]) % prime


def columns_of(vectors, length):
    """The numbers of vectors of one length, place by place."""
    if not vectors:
        return [[] for _ in range(length)]
    return [list(column) for column in zip(*vectors)][:length]


def added_up(prime, vectors, factors, length):
    """What vectors of this length, perhaps none, add up to by factors."""
    total = None
    for factor, vector in zip(factors, vectors):
        if factor and total is None:
            total = [factor * number for number in vector[:length]]
        elif factor:
            total = [a + factor * b for a, b in zip(total, vector)]
    return [0] * length if total is None else [number % prime for number in total]


def pivot_row(table, start, place):
    for at in range(start, len(table)):
        if table[at][place]:
            return at
    return None


def clear_column(prime, table, at, place):
    """Makes the number of one row at this place 1, and that of all other rows 0."""
    lead = table[at]
    if lead[place] != 1:
        scale = inverse_of(prime, lead[place])
        lead = [number * scale % prime for number in lead]
        table[at] = lead
    for row in range(len(table)):
        factor = table[row][place]
        if row != at and factor:
            table[row] = [(a - factor * b) % prime for a, b in zip(table[row], lead)]


def eliminated(prime, vectors, width):
    """Vectors reduced by their first places alone, and the place of the leading 1 of each of the first ones.

    Behind the led ones the vectors hold only 0 in the first places.
    """
    table = [list(vector) for vector in vectors]
    pivots = []
    for place in range(width):
        at = len(pivots)
        found = pivot_row(table, at, place)
        if found is not None:
            table[at], table[found] = table[found], table[at]
            clear_column(prime, table, at, place)
            pivots.append(place)
    return table, pivots


def basis_of(prime, vectors):
    """The reduced basis of vectors of one length."""
    if not vectors:
        return []
    table, pivots = eliminated(prime, vectors, len(vectors[0]))
    return table[:len(pivots)]


def meeting(prime, vectors, aims, length):
    """Any vector of this length whose product with each vector is the aim at its position, or None.

    By the same vectors it hangs on the aims by sums: aims that add up have vectors that add up.
    """
    table, pivots = eliminated(prime, [vector + [aim] for vector, aim in zip(vectors, aims)], length)
    if any([row[length] for row in table[len(pivots):]]):
        return None
    found = [0] * length
    for row, place in zip(table, pivots):
        found[place] = row[length]
    return found


def crossing(prime, vectors, length):
    """The reduced basis of all vectors of this length whose product with each vector is 0."""
    table, pivots = eliminated(prime, vectors, length)
    found = []
    for place in range(length):
        if place not in pivots:
            vector = [0] * length
            vector[place] = 1
            for row, pivot in zip(table, pivots):
                vector[pivot] = -row[place] % prime
            found.append(vector)
    return basis_of(prime, found)


def factors_for(prime, vectors, wanted):
    """Any factors by which vectors add up to a wanted one, or None."""
    return meeting(prime, columns_of(vectors, len(wanted)), wanted, len(vectors))


def middle_of(prime, first, second, wanted, inner, outer):
    """Any list of `inner` vectors, as long as second has vectors, that stands between: each wanted vector, of length
    `outer`, is what comes if they add up by the first one at its position, and then second adds up by that. Or None.

    The middle is found column by column, by one and the same reckoning: so its columns are sums of the wanted ones,
    and second adds up to them wherever it adds up to the wanted ones at all.
    """
    columns = [meeting(prime, first, column, inner) for column in columns_of(wanted, outer)]
    if any([column is None for column in columns]):
        return None
    found = [factors_for(prime, second, vector) for vector in columns_of(columns, inner)]
    if any([vector is None for vector in found]):
        return None
    return found
