"""Rests by a prime: what undoes them, their signs and roots."""

from restkeepers.checks import fits_count, fits_prime, need_prime, need_rest
from restkeepers.errors import NotUndone
from restkeepers.sums import inverse


def is_prime(value):
    """Whether any value is 3, 5, 7, 11 or 13."""
    return fits_prime(value)


def is_rest(prime, value):
    """Whether any value is a rest by the prime."""
    need_prime(prime)
    return fits_count(value, prime)


def undone_rest(prime, rest):
    """The rest by which the rest is undone."""
    need_prime(prime)
    need_rest(prime, rest)
    if rest == 0:
        raise NotUndone()
    return inverse(prime, rest)


def sign_rest(prime, rest):
    """1 of a square, 0 of 0, -1 of an odd rest."""
    found = root(prime, rest)
    if found is None:
        return -1
    return 0 if found == 0 else 1


def root(prime, rest):
    """The lesser rest whose square is the rest; None if it is odd."""
    need_prime(prime)
    need_rest(prime, rest)
    for found in range(prime):
        if found * found % prime == rest:
            return found
    return None


def least_odd(prime):
    """The least odd rest."""
    need_prime(prime)
    rest = 2
    while root(prime, rest) is not None:
        rest += 1
    return rest


def two_squares(prime, rest):
    """The least tuple of two rests whose squares add up to the rest."""
    need_prime(prime)
    need_rest(prime, rest)
    first = 0
    # Each rest is the sum of two squares, so this ends.
    while root(prime, (rest - first * first) % prime) is None:
        first += 1
    return (first, root(prime, (rest - first * first) % prime))
