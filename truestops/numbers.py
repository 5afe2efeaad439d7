"""Numbers of a prime, and vectors of them."""

from truestops.errors import InvalidNumber, InvalidVectors
from truestops.forms import is_factor, is_vector_of, is_vectors, is_vectors_of, is_vector, require_prime
from truestops.vectors import (
    added_up,
    basis_of,
    columns_of,
    crossing,
    factors_for,
    inverse_of,
    meeting,
    middle_of,
    product_of,
)


def require_vectors(prime, vectors):
    if not is_vectors(prime, vectors):
        raise InvalidVectors(vectors)


def require_some_vectors(prime, vectors):
    if not is_vectors(prime, vectors) or not vectors:
        raise InvalidVectors(vectors)


def inverse(prime, number):
    require_prime(prime)
    if not is_factor(prime, number):
        raise InvalidNumber(number)
    return inverse_of(prime, number)


def combined(prime, vectors, factors):
    require_prime(prime)
    require_some_vectors(prime, vectors)
    if not is_vector_of(prime, factors, len(vectors)):
        raise InvalidVectors(factors)
    return added_up(prime, vectors, factors, len(vectors[0]))


def reduced(prime, vectors):
    require_prime(prime)
    require_vectors(prime, vectors)
    return basis_of(prime, vectors)


def rank(prime, vectors):
    return len(reduced(prime, vectors))


def require_question(prime, vectors, wanted):
    """The errors of a question whether vectors add up to a wanted one."""
    require_prime(prime)
    require_vectors(prime, vectors)
    # Without vectors there is no length that the wanted one could miss.
    if not is_vector(prime, wanted) or (vectors and len(wanted) != len(vectors[0])):
        raise InvalidVectors(wanted)


def solved(prime, vectors, wanted):
    require_question(prime, vectors, wanted)
    return factors_for(prime, vectors, wanted)


def is_solved(prime, vectors, wanted, value):
    require_question(prime, vectors, wanted)
    if not is_vector_of(prime, value, len(vectors)):
        return False
    return added_up(prime, vectors, value, len(wanted)) == wanted


def barred(prime, vectors, wanted):
    require_question(prime, vectors, wanted)
    return meeting(prime, vectors + [wanted], [0] * len(vectors) + [1], len(wanted))


def is_barred(prime, vectors, wanted, value):
    require_question(prime, vectors, wanted)
    if not is_vector_of(prime, value, len(wanted)) or product_of(prime, wanted, value) != 1:
        return False
    return not any([product_of(prime, vector, value) for vector in vectors])


def nothings(prime, vectors):
    require_prime(prime)
    require_vectors(prime, vectors)
    length = len(vectors[0]) if vectors else 0
    return crossing(prime, columns_of(vectors, length), len(vectors))


def require_between(prime, first, second, wanted):
    """The errors of a question what stands between first and second vectors."""
    require_prime(prime)
    require_some_vectors(prime, first)
    require_some_vectors(prime, second)
    if not is_vectors_of(prime, wanted, len(first), len(second[0])):
        raise InvalidVectors(wanted)


def between(prime, first, second, wanted):
    require_between(prime, first, second, wanted)
    return middle_of(prime, first, second, wanted, len(first[0]), len(second[0]))


def is_between(prime, first, second, wanted, value):
    require_between(prime, first, second, wanted)
    if not is_vectors_of(prime, value, len(first[0]), len(second)):
        return False
    middle = [added_up(prime, value, vector, len(second)) for vector in first]
    return [added_up(prime, second, vector, len(second[0])) for vector in middle] == wanted


def barred_between(prime, first, second, wanted):
    require_between(prime, first, second, wanted)
    inner, outer = len(first[0]), len(second[0])
    for factors in crossing(prime, columns_of(first, inner), len(first)):
        if any(added_up(prime, wanted, factors, outer)):
            return ("first", factors)
    for vector in crossing(prime, second, outer):
        if any([product_of(prime, row, vector) for row in wanted]):
            return ("second", vector)
    return None


def is_barred_between(prime, first, second, wanted, value):
    require_between(prime, first, second, wanted)
    if type(value) is not tuple or len(value) != 2:
        return False
    side, paper = value
    inner, outer = len(first[0]), len(second[0])
    if side == "first" and is_vector_of(prime, paper, len(first)):
        return not any(added_up(prime, first, paper, inner)) and any(added_up(prime, wanted, paper, outer))
    if side == "second" and is_vector_of(prime, paper, outer):
        held = [product_of(prime, vector, paper) for vector in second]
        return not any(held) and any([product_of(prime, vector, paper) for vector in wanted])
    return False
