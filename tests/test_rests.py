"""Rests: what is one, what undoes it, its sign, its root, two squares."""

import unittest

from restkeepers.errors import InvalidPrime, InvalidRest, NotUndone
from restkeepers.rests import is_prime, is_rest, least_odd, root, sign_rest, two_squares, undone_rest
from tests.cases import Case
from tests.reckon import NO_PRIMES, PRIMES, no_rests

OF_A_REST = [undone_rest, sign_rest, root, two_squares]


class Judges(Case):

    def test_primes(self):
        for prime in PRIMES:
            self.judged(True, prime, is_prime, prime)
            self.judged(True, prime, is_prime, value=prime)
        for value in NO_PRIMES:
            self.judged(False, value, is_prime, value)

    def test_no_other_number_is_a_prime(self):
        self.assertEqual([value for value in range(-20, 400) if is_prime(value)], list(PRIMES))

    def test_rests(self):
        for prime in PRIMES:
            for value in range(-2 * prime, 3 * prime):
                self.judged(0 <= value < prime, value, is_rest, prime, value)
            for value in no_rests(prime):
                self.judged(False, value, is_rest, prime=prime, value=value)


class Rests(Case):

    def test_undone(self):
        for prime in PRIMES:
            for rest in range(1, prime):
                got = self.told(undone_rest, prime=prime, rest=rest)
                self.same(got, [by for by in range(prime) if by * rest % prime == 1][0])

    def test_nothing_undoes_0(self):
        for prime in PRIMES:
            self.raised(NotUndone, undone_rest, prime, 0)
            self.raised(NotUndone, undone_rest, prime=prime, rest=0)

    def test_signs(self):
        for prime in PRIMES:
            squares = {rest * rest % prime for rest in range(1, prime)}
            for rest in range(prime):
                wanted = 0 if rest == 0 else (1 if rest in squares else -1)
                self.same(self.told(sign_rest, prime=prime, rest=rest), wanted)
            signs = [sign_rest(prime, rest) for rest in range(prime)]
            self.assertEqual([signs.count(1), signs.count(0), signs.count(-1)], [prime // 2, 1, prime // 2])

    def test_sign_of_a_product(self):
        for prime in PRIMES:
            for rest in range(prime):
                for other in range(prime):
                    self.assertEqual(sign_rest(prime, rest * other % prime),
                                     sign_rest(prime, rest) * sign_rest(prime, other))

    def test_roots(self):
        for prime in PRIMES:
            for rest in range(prime):
                roots = [by for by in range(prime) if by * by % prime == rest]
                self.same(self.told(root, prime=prime, rest=rest), min(roots) if roots else None)
            self.same(root(prime, 0), 0)

    def test_least_odd(self):
        for prime, wanted in zip(PRIMES, [2, 2, 3, 2, 2]):
            self.same(self.told(least_odd, prime=prime), wanted)
            self.assertEqual([sign_rest(prime, rest) for rest in range(wanted + 1)], [0] + [1] * (wanted - 1) + [-1])

    def test_two_squares(self):
        for prime in PRIMES:
            for rest in range(prime):
                wanted = min((a, b) for a in range(prime) for b in range(prime) if (a * a + b * b) % prime == rest)
                self.same(self.told(two_squares, prime=prime, rest=rest), wanted)


class Refused(Case):

    def test_prime(self):
        for value in NO_PRIMES:
            self.refused(InvalidPrime, value, is_rest, value, 0)
            self.refused(InvalidPrime, value, is_rest, value=None, prime=value)
            self.refused(InvalidPrime, value, least_odd, value)
            self.refused(InvalidPrime, value, least_odd, prime=value)
            for function in OF_A_REST:
                for rest in [0, 1, -1, None]:
                    self.refused(InvalidPrime, value, function, value, rest)

    def test_rest(self):
        for prime in PRIMES:
            for value in no_rests(prime):
                for function in OF_A_REST:
                    self.refused(InvalidRest, value, function, prime, value)
                    self.refused(InvalidRest, value, function, rest=value, prime=prime)


if __name__ == "__main__":
    unittest.main()
