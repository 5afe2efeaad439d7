import itertools
import random
import unittest

from tests.odd import odd_objects
from truestops.errors import InvalidNumber, InvalidPrime, InvalidVectors
from truestops.numbers import (
    barred,
    barred_between,
    between,
    combined,
    inverse,
    is_barred,
    is_barred_between,
    is_between,
    is_solved,
    nothings,
    rank,
    reduced,
    solved,
)

PRIMES = [2, 3, 5, 65537]
BAD_PRIMES = [0, 1, -2, -5, 4, 9, 25, 65535, 65539, 10 ** 30, True, False, None, "5", [5], (5,), {5: 5}]


def chance_vectors(chance, prime, many, length):
    """Vectors of which some are sums of others."""
    base = [[chance.randrange(prime) for _ in range(length)] for _ in range(chance.randint(1, 3))]
    found = []
    for _ in range(many):
        factors = [chance.randrange(prime) for _ in base]
        found.append(added(prime, base, factors, length))
    return found


def added(prime, vectors, factors, length):
    return [sum(f * v[k] for f, v in zip(factors, vectors)) % prime for k in range(length)]


def dot(prime, one, other):
    return sum(a * b for a, b in zip(one, other)) % prime


def all_sums(prime, vectors, length):
    """All vectors that these add up to, one by one."""
    lists = itertools.product(range(prime), repeat=len(vectors))
    return sorted({tuple(added(prime, vectors, factors, length)) for factors in lists})


class Numbers(unittest.TestCase):
    def refused(self, kind, value, function, /, *args, **more):
        with self.assertRaises(kind) as caught:
            function(*args, **more)
        self.assertIs(type(caught.exception), kind)
        self.assertIs(caught.exception.value, value)


class Point10(Numbers):
    def test_inverse_of_all_numbers(self):
        for prime in [2, 3, 5, 7, 11, 101]:
            for number in range(1, prime):
                self.assertEqual(inverse(prime, number) * number % prime, 1)
                self.assertIn(inverse(prime, number), range(prime))

    def test_inverse_by_the_greatest_prime(self):
        for number in [1, 2, 3, 255, 256, 32768, 65535, 65536]:
            self.assertEqual(inverse(65537, number) * number % 65537, 1)

    def test_inverse_of_what_is_no_number(self):
        for bad in [0, 5, 6, -1, True, False, None, "2", [2], (2,), 10 ** 30]:
            self.refused(InvalidNumber, bad, inverse, 5, bad)

    def test_combined(self):
        self.assertEqual(combined(2, [[1, 0], [1, 1]], [1, 1]), [0, 1])
        self.assertEqual(combined(65537, [[65536]], [65536]), [1])
        self.assertEqual(combined(5, [[], []], [1, 2]), [])
        self.assertEqual(combined(3, [[1, 2, 0]], [0]), [0, 0, 0])

    def test_combined_needs_a_vector(self):
        for bad in [[], [[1], [1, 2]], [[5]], [[-1]], [[True]], [(1,)], ([1],), None, [None], {}, [1], [[[]]]]:
            self.refused(InvalidVectors, bad, combined, 5, bad, [1])

    def test_combined_needs_a_factor_for_each(self):
        for bad in [[], [1], [1, 2, 3], [1, 5], [1, True], (1, 2), None, "12", [[1, 2]], {0: 1, 1: 2}]:
            self.refused(InvalidVectors, bad, combined, 5, [[1], [2]], bad)


class Point11(Numbers):
    def test_told_ones(self):
        self.assertEqual(reduced(5, []), [])
        self.assertEqual(reduced(5, [[]]), [])
        self.assertEqual(reduced(5, [[0, 0], [0, 0]]), [])
        self.assertEqual(reduced(5, [[0, 3], [2, 0]]), [[1, 0], [0, 1]])
        self.assertEqual(reduced(3, [[0, 1, 1], [1, 1, 1]]), [[1, 0, 0], [0, 1, 1]])
        self.assertEqual(reduced(2, [[1, 1, 0], [0, 1, 1], [1, 0, 1]]), [[1, 0, 1], [0, 1, 1]])
        self.assertEqual(reduced(65537, [[2, 1]]), [[1, 32769]])
        self.assertEqual([rank(5, []), rank(5, [[], []]), rank(2, [[1, 1], [1, 0]])], [0, 0, 2])

    def test_form_and_span(self):
        chance = random.Random(11)
        for prime in [2, 3]:
            for _ in range(60):
                length = chance.randint(0, 4)
                vectors = chance_vectors(chance, prime, chance.randint(0, 4), length)
                basis = reduced(prime, vectors)
                leads = [[k for k, n in enumerate(v) if n][0] for v in basis]
                self.assertEqual(leads, sorted(set(leads)))
                for vector, lead in zip(basis, leads):
                    self.assertEqual([v[lead] for v in basis], [int(v is vector) for v in basis])
                self.assertEqual(all_sums(prime, basis, length), all_sums(prime, vectors, length))
                self.assertEqual(reduced(prime, basis), basis)
                self.assertEqual(reduced(prime, vectors[::-1]), basis)
                self.assertEqual(rank(prime, vectors), len(basis))

    def test_greatest_lists(self):
        chance = random.Random(24)
        for prime in PRIMES:
            vectors = [[chance.randrange(prime) for _ in range(24)] for _ in range(40)]
            basis = reduced(prime, vectors)
            self.assertEqual(rank(prime, vectors), len(basis))
            for vector in vectors:
                self.assertIsNotNone(solved(prime, basis, vector))

    def test_wrong_vectors(self):
        for function in [reduced, rank, nothings]:
            for bad in [[[1], [1, 2]], [[5]], [[-1]], [[True]], [(1,)], ([1],), None, [None], {}, [1], "", [[], [1]]]:
                self.refused(InvalidVectors, bad, function, 5, bad)


class Point12(Numbers):
    def test_told_ones(self):
        self.assertEqual(solved(5, [], []), [])
        self.assertEqual(solved(5, [], [0, 0]), [])
        self.assertIsNone(solved(5, [], [0, 1]))
        self.assertEqual(barred(5, [], [3]), [2])
        self.assertIsNone(barred(5, [], [0, 0]))
        self.assertIsNone(barred(5, [], []))
        self.assertEqual(solved(5, [[], []], []), [0, 0])
        self.assertEqual([nothings(5, []), nothings(5, [[], []]), nothings(2, [[1], [1]])], [[], [[1, 0], [0, 1]], [[1, 1]]])

    def test_just_one_of_the_two(self):
        chance = random.Random(12)
        for prime in PRIMES:
            for _ in range(60):
                length = chance.randint(0, 5)
                vectors = chance_vectors(chance, prime, chance.randint(0, 5), length)
                wanted = chance_vectors(chance, prime, 1, length)[0]
                if vectors and chance.random() < 0.5:
                    wanted = added(prime, vectors, [chance.randrange(prime) for _ in vectors], length)
                factors, bar = solved(prime, vectors, wanted), barred(prime, vectors, wanted)
                self.assertEqual([factors is None, bar is None].count(True), 1)
                if factors is not None:
                    self.assertEqual(added(prime, vectors, factors, length), wanted)
                    self.assertIs(is_solved(prime, vectors, wanted, factors), True)
                else:
                    self.assertEqual([dot(prime, v, bar) for v in vectors + [wanted]], [0] * len(vectors) + [1])
                    self.assertIs(is_barred(prime, vectors, wanted, bar), True)

    def test_judges_tell_each_vector_apart(self):
        for vectors, wanted in [([[1, 2], [2, 1]], [0, 0]), ([[1, 1]], [2, 2]), ([[1, 0]], [0, 1]), ([], [1, 2]), ([], [0])]:
            for value in [list(v) for v in itertools.product(range(3), repeat=len(vectors))]:
                right = added(3, vectors, value, len(wanted)) == wanted
                self.assertIs(is_solved(3, vectors, wanted, value), right)
            for value in [list(v) for v in itertools.product(range(3), repeat=len(wanted))]:
                right = [dot(3, v, value) for v in vectors + [wanted]] == [0] * len(vectors) + [1]
                self.assertIs(is_barred(3, vectors, wanted, value), right)

    def test_judges_on_odd_objects(self):
        for value in odd_objects() + [[1], [2], [3, 0], [1, True], (1, 2), [[1], [2]]]:
            self.assertIs(is_solved(5, [[1, 2], [0, 1]], [1, 4], value), False)
            self.assertIs(is_barred(5, [[1, 2]], [1, 4], value), False)
        self.assertIs(is_solved(5, [[1, 2], [0, 1]], [1, 4], [1, 2]), True)
        self.assertIs(is_barred(5, [[1, 2]], [1, 4], [4, 3]), True)

    def test_nothings(self):
        chance = random.Random(13)
        for prime in [2, 3]:
            for _ in range(60):
                length, many = chance.randint(0, 4), chance.randint(0, 5)
                vectors = chance_vectors(chance, prime, many, length)
                lists = [list(v) for v in itertools.product(range(prime), repeat=len(vectors))]
                noughts = [v for v in lists if not any(added(prime, vectors, v, length))]
                found = nothings(prime, vectors)
                self.assertEqual(reduced(prime, found), found)
                self.assertEqual(len(found), len(vectors) - rank(prime, vectors))
                self.assertEqual([tuple(v) for v in noughts], all_sums(prime, found, len(vectors)))

    def test_wrong_questions(self):
        for function, more in [(solved, []), (barred, []), (is_solved, [None]), (is_barred, [None])]:
            for bad in [[[1], [1, 2]], [[5]], [[True]], [(1,)], ([1],), None, [1]]:
                self.refused(InvalidVectors, bad, function, 5, bad, None, *more)
            for bad in [[], [1], [1, 2, 3], [1, 5], [1, -1], [1, False], (1, 2), None, [[1, 2]], "12"]:
                self.refused(InvalidVectors, bad, function, 5, [[1, 2]], bad, *more)
            for bad in [None, (), [5], [True], 0, {}]:
                self.refused(InvalidVectors, bad, function, 5, [], bad, *more)


class Point13(Numbers):
    def between_by_hand(self, prime, first, second, value):
        middle = [added(prime, value, vector, len(second)) for vector in first]
        return [added(prime, second, vector, len(second[0])) for vector in middle]

    def test_told_ones(self):
        self.assertEqual(between(5, [[]], [[1, 2]], [[0, 0]]), [])
        self.assertIsNone(between(5, [[]], [[1, 2]], [[0, 1]]))
        self.assertEqual(barred_between(5, [[]], [[1, 2]], [[0, 2]]), ("first", [1]))
        self.assertEqual(barred_between(5, [[1]], [[1, 0]], [[0, 2]])[0], "second")
        self.assertIs(is_between(5, [[1, 2]], [[], []], [[]], [[1, 2], [3, 4]]), True)
        self.assertIs(is_between(5, [[1, 2]], [[], []], [[]], between(5, [[1, 2]], [[], []], [[]])), True)
        self.assertIsNone(barred_between(5, [[1, 2]], [[], []], [[]]))
        self.assertEqual(between(5, [[2]], [[3]], [[1]]), [[1]])

    def test_just_one_of_the_two(self):
        chance = random.Random(14)
        seen = set()
        for prime in PRIMES:
            for _ in range(80):
                inner, outer = chance.randint(0, 3), chance.randint(0, 3)
                first = chance_vectors(chance, prime, chance.randint(1, 4), inner)
                second = chance_vectors(chance, prime, chance.randint(1, 3), outer)
                wanted = chance_vectors(chance, prime, len(first), outer)
                if chance.random() < 0.6:
                    value = [[chance.randrange(prime) for _ in second] for _ in range(inner)]
                    wanted = self.between_by_hand(prime, first, second, value)
                    self.assertIs(is_between(prime, first, second, wanted, value), True)
                found, bar = between(prime, first, second, wanted), barred_between(prime, first, second, wanted)
                self.assertEqual([found is None, bar is None].count(True), 1)
                if found is None:
                    seen.add(bar[0])
                    self.assertIs(is_barred_between(prime, first, second, wanted, bar), True)
                else:
                    self.assertEqual([len(found), {len(v) for v in found}], [inner, {len(second)} if inner else set()])
                    self.assertEqual(self.between_by_hand(prime, first, second, found), wanted)
                    self.assertIs(is_between(prime, first, second, wanted, found), True)
        self.assertEqual(seen, {"first", "second"})

    def test_greatest_lists(self):
        chance = random.Random(15)
        first = [[chance.randrange(65537) for _ in range(12)] for _ in range(12)]
        second = [[chance.randrange(65537) for _ in range(12)] for _ in range(12)]
        middle = [[chance.randrange(65537) for _ in range(12)] for _ in range(12)]
        wanted = self.between_by_hand(65537, first, second, middle)
        self.assertIs(is_between(65537, first, second, wanted, between(65537, first, second, wanted)), True)
        self.assertIsNone(barred_between(65537, first, second, wanted))

    def test_judges_tell_each_value_apart(self):
        first, second, wanted = [[1], [2]], [[1, 0], [2, 0]], [[1, 0], [2, 0]]
        for value in itertools.product(range(3), repeat=2):
            right = self.between_by_hand(3, first, second, [list(value)]) == wanted
            self.assertIs(is_between(3, first, second, wanted, [list(value)]), right)
        for wanted in [[[1, 0], [0, 0]], [[1, 1], [2, 2]], [[0, 1], [1, 0]], [[1, 0], [2, 0]]]:
            for paper in [list(v) for v in itertools.product(range(3), repeat=2)]:
                by_first = added(3, first, paper, 1) == [0] and any(added(3, wanted, paper, 2))
                by_second = not any(dot(3, v, paper) for v in second) and any(dot(3, v, paper) for v in wanted)
                self.assertIs(is_barred_between(3, first, second, wanted, ("first", paper)), by_first)
                self.assertIs(is_barred_between(3, first, second, wanted, ("second", paper)), by_second)

    def test_judges_on_odd_objects(self):
        asked = (5, [[1, 0]], [[1], [2]], [[3]])
        bent = [[[3, 0]], [[3, 0], [0, 0], [0, 0]], [[3], [0]], [[3, 0], (0, 0)], ([3, 0], [0, 0]), [[3, False], [0, 0]]]
        for value in odd_objects() + bent + [[[1, 0], [0, 0]]]:
            self.assertIs(is_between(*asked, value), False)
            self.assertIs(is_barred_between(*asked, value), False)
        asked = (5, [[0], [1]], [[1]], [[1], [0]])
        bent = [["first", [1, 0]], ("first", (1, 0)), ("second", [1, 0]), ("first", [1]), ("first", [1, 0, 0])]
        bent += [("first", [1, 0], None), ("First", [1, 0]), ("first", [True, 0]), ("first", [0, 0]), ("first", [1, 1])]
        for value in odd_objects() + bent + [("second", [0]), ("second", [1]), (["first"], [1, 0])]:
            self.assertIs(is_barred_between(*asked, value), False)
            self.assertIs(is_between(*asked, value), False)
        self.assertIs(is_barred_between(*asked, ("first", [1, 0])), True)
        asked = (5, [[1]], [[1, 0]], [[0, 2]])
        bent = [("third", [0, 1]), ("first", [0, 1]), ("", [0, 1]), (None, [0, 1]), ("second", (0, 1)), ("second", [0, True])]
        for value in odd_objects() + bent + [("second", [1]), ("second", [0, 1, 0]), ("second", [1, 1]), ("second", None)]:
            self.assertIs(is_barred_between(*asked, value), False)
        self.assertIs(is_barred_between(*asked, ("second", [0, 1])), True)

    def test_wrong_questions(self):
        judged = [(is_between, [None]), (is_barred_between, [None])]
        for function, more in [(between, []), (barred_between, [])] + judged:
            for bad in [[], [[1], [1, 2]], [[5]], [[True]], [(1,)], ([1],), None, [1], {}]:
                self.refused(InvalidVectors, bad, function, 5, bad, None, None, *more)
                self.refused(InvalidVectors, bad, function, 5, [[1]], bad, None, *more)
            for bad in [[], [[1]], [[1], [2], [3]], [[1, 2], [3, 4]], [[1], [5]], [[1], [True]], [[1], (2,)], None]:
                self.refused(InvalidVectors, bad, function, 5, [[1], [2]], [[1]], bad, *more)


class Everywhere(Numbers):
    CALLS = [
        (inverse, {"prime": 5, "number": 2}),
        (combined, {"prime": 5, "vectors": [[1, 2], [3, 4]], "factors": [2, 1]}),
        (reduced, {"prime": 5, "vectors": [[2, 4, 1], [1, 2, 4]]}),
        (rank, {"prime": 5, "vectors": [[1, 2], [2, 4]]}),
        (solved, {"prime": 5, "vectors": [[1, 2]], "wanted": [3, 1]}),
        (is_solved, {"prime": 5, "vectors": [[1, 2]], "wanted": [3, 1], "value": [3]}),
        (barred, {"prime": 5, "vectors": [[1, 2]], "wanted": [1, 1]}),
        (is_barred, {"prime": 5, "vectors": [[1, 2]], "wanted": [1, 1], "value": [2, 4]}),
        (nothings, {"prime": 5, "vectors": [[1, 2], [2, 4]]}),
        (between, {"prime": 5, "first": [[1, 0]], "second": [[1], [2]], "wanted": [[3]]}),
        (is_between, {"prime": 5, "first": [[1]], "second": [[1]], "wanted": [[3]], "value": [[3]]}),
        (barred_between, {"prime": 5, "first": [[0], [1]], "second": [[1]], "wanted": [[1], [0]]}),
        (is_barred_between, {"prime": 5, "first": [[0]], "second": [[1]], "wanted": [[1]], "value": ("first", [2])}),
    ]

    def test_prime_ahead_of_all(self):
        for function, named in self.CALLS:
            for bad in BAD_PRIMES:
                self.refused(InvalidPrime, bad, function, **dict(named, prime=bad))
                self.refused(InvalidPrime, bad, function, bad, *[None] * (len(named) - 1))

    def test_primes(self):
        for prime in PRIMES + [7, 251, 257, 65521]:
            self.assertEqual(reduced(prime, [[1]]), [[1]])

    def test_by_names_in_any_order_and_again(self):
        for function, named in self.CALLS:
            told = function(*named.values())
            text = repr(named)
            for order in itertools.permutations(named):
                self.assertEqual(function(**{name: named[name] for name in order}), told)
            self.assertEqual(repr(named), text)

    def test_what_is_returned_may_be_changed(self):
        def spoil(thing):
            for inner in thing if isinstance(thing, (list, tuple)) else []:
                spoil(inner)
            if isinstance(thing, list):
                thing[:] = [None]

        for function, named in self.CALLS:
            told = repr(function(*named.values()))
            text = repr(named)
            spoil(function(*named.values()))
            self.assertEqual(repr(named), text)
            self.assertEqual(repr(function(*named.values())), told)

    def test_what_is_handed_over_is_not_returned(self):
        vectors, wanted = [[1, 0], [0, 1]], [[1, 0], [0, 1]]
        for found in [reduced(5, vectors), between(5, vectors, vectors, wanted)]:
            self.assertEqual(found, vectors)
            self.assertFalse([one for one in found for other in vectors + wanted if one is other])


if __name__ == "__main__":
    unittest.main()
