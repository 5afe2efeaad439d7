"""The small forms that all modules ask for: numbers, names, letters, vectors."""

from math import gcd

from truestops.errors import InvalidPrime

GREATEST_PRIME = 65537
LONGEST_NAME = 8
SMALL_LETTERS = "abcdefghijklmnopqrstuvwxyz"
SMALL_PRIMES = (
    2, 3, 5, 7, 11, 13, 17, 19, 23, 29, 31, 37, 41, 43, 47, 53, 59, 61, 67, 71, 73, 79, 83, 89, 97, 101, 103,
    107, 109, 113, 127, 131, 137, 139, 149, 151, 157, 163, 167, 173, 179, 181, 191, 193, 197, 199, 211, 223,
    227, 229, 233, 239, 241, 251,
)
# The product of all these: up to the greatest prime, what has none of them in it is a prime.
SMALL_PRODUCT = 64266330917908644872330635228106713310880186591609208114244758680898150367880703152525200743234420230


def is_count(value):
    # The exact class is asked for because True and False are integers to isinstance.
    return type(value) is int and value >= 0


def is_name(value):
    if type(value) is not str or not 1 <= len(value) <= LONGEST_NAME:
        return False
    return value.isascii() and value.isalpha() and value.islower()


def name_by_count(count):
    """A name of its own for each count: a, b, .., z, aa, ab, .."""
    name = ""
    left = count + 1
    while left > 0:
        left, at = divmod(left - 1, len(SMALL_LETTERS))
        name = SMALL_LETTERS[at] + name
    return name


def is_names(value):
    return type(value) is list and all([is_name(name) for name in value])


def is_prime(value):
    if type(value) is not int or not 2 <= value <= GREATEST_PRIME:
        return False
    return value in SMALL_PRIMES or gcd(value, SMALL_PRODUCT) == 1


def require_prime(prime):
    if not is_prime(prime):
        raise InvalidPrime(prime)


def is_number(prime, value):
    return is_count(value) and value < prime


def is_factor(prime, value):
    return is_number(prime, value) and value > 0


def is_vector(prime, value):
    return type(value) is list and all([is_number(prime, number) for number in value])


def is_vector_of(prime, value, length):
    return is_vector(prime, value) and len(value) == length


def is_vectors(prime, value):
    if type(value) is not list or not all([is_vector(prime, vector) for vector in value]):
        return False
    return all([len(vector) == len(value[0]) for vector in value])


def is_vectors_of(prime, value, many, length):
    """Whether a value is a list of just so many vectors, each of this length."""
    if type(value) is not list or len(value) != many:
        return False
    return all([is_vector_of(prime, vector, length) for vector in value])


def letter_fits(prime, asking, letter):
    """Whether any object is a letter that answers an asking, a tuple as runs return it."""
    if type(letter) is not tuple or len(letter) != 2 or not is_count(letter[1]):
        return False
    if asking[0] == "number":
        return letter[0] == "number" and letter[1] < prime
    if asking[0] == "choice":
        return letter[0] == "choice" and letter[1] < asking[1]
    return False


def is_sum(prime, value):
    """Whether a value is a sum of holders, whichever there are."""
    if type(value) is not dict or not all([type(key) is str for key in value]):
        return False
    return all([is_factor(prime, factor) for factor in value.values()])


def is_stir(prime, value):
    return is_sum(prime, value) and "" not in value


def is_state(prime, value, holders):
    """Whether a value leads just these holders to numbers."""
    if type(value) is not dict or len(value) != len(holders):
        return False
    return all([holder in value and is_number(prime, value[holder]) for holder in holders])
