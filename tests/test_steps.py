"""Told steps, ranks, zeros, and what rows make."""

import unittest

from restkeepers.errors import InvalidPrime, InvalidRow, InvalidRows, InvalidSize
from restkeepers.steps import made_of, rank, steps, zeros
from tests import reckon
from tests.cases import Case
from tests.reckon import NO_PRIMES, NO_SIZES, PRIMES, Numbers, all_rows, no_row_lists, no_rows, unit

SIZES = range(7)
# All rows of these sizes are listed.
LISTED = [(3, 6), (5, 4), (7, 3), (11, 3), (13, 2)]


def samples(prime, size):
    """Lists of rows, with the told steps that they must have."""
    numbers = Numbers(50 * prime + size)
    for many in range(size + 1):
        basis = reckon.told_basis(numbers, prime, size, many)
        yield basis, basis
        for more in [0, 1, 4, 40 - many]:
            yield reckon.spanning(numbers, prime, size, basis, more), basis


def listed_samples():
    """Lists of rows that look mixed, of sizes whose rows can all be listed."""
    for prime, most in LISTED:
        for size in range(most + 1):
            numbers = Numbers(prime + 20 * size)
            for many in [0, 1, 2, 3, 5]:
                yield prime, size, numbers.rows(prime, size, many)
            yield prime, size, [[0] * size] + numbers.rows(prime, size, 1) * 3 + [[0] * size]


class Told(Case):

    def test_steps(self):
        for prime in PRIMES:
            for size in SIZES:
                for rows, basis in samples(prime, size):
                    self.assertTrue(reckon.in_steps(basis))
                    self.same(self.told(steps, prime=prime, size=size, rows=rows), basis)
                    self.same(steps(prime, size, tuple(tuple(row) for row in rows)), basis)
                    self.same(self.told(rank, prime=prime, size=size, rows=rows), len(basis))

    def test_steps_of_all_that_rows_make(self):
        for prime, size, rows in listed_samples():
            got = self.told(steps, prime=prime, size=size, rows=rows)
            self.assertTrue(reckon.in_steps(got), got)
            self.assertTrue(isinstance(got, list) and reckon.plain_kind(tuple(got)))
            self.assertEqual(reckon.spanned(prime, size, got), reckon.spanned(prime, size, rows))
            self.assertEqual(prime ** rank(prime, size, rows), len(reckon.spanned(prime, size, rows)))

    def test_pairs_of_all_rows(self):
        for first in all_rows(3, 2):
            for second in all_rows(3, 2):
                got = steps(3, 2, [first, second])
                self.assertTrue(reckon.in_steps(got))
                self.assertEqual(reckon.spanned(3, 2, got), reckon.spanned(3, 2, [first, second]))

    def test_other_rows_that_make_the_same(self):
        for prime in PRIMES:
            for size in range(1, 7):
                rows = Numbers(size).rows(prime, size, 3)
                wanted = steps(prime, size, rows)
                self.assertEqual(steps(prime, size, rows[::-1]), wanted)
                self.assertEqual(steps(prime, size, [rows[1], rows[2], rows[0], rows[1]]), wanted)
                self.assertEqual(steps(prime, size, [[2 * rest % prime for rest in row] for row in rows]), wanted)
                added = [[(a + 2 * b) % prime for a, b in zip(rows[0], rows[1])], rows[1], rows[2]]
                self.assertEqual(steps(prime, size, added), wanted)
                self.assertEqual(steps(prime, size, rows + [[0] * size] * 4), wanted)
                self.assertEqual(steps(prime, size, wanted), wanted)

    def test_nothing(self):
        for prime in PRIMES:
            for size in SIZES:
                for rows in [[], (), [[0] * size], ((0,) * size,) * 40]:
                    self.same(steps(prime, size, rows), [])
                    self.same(rank(prime, size, rows), 0)
                    self.same(zeros(prime, size, rows), list(unit(size)))
                    self.same(made_of(prime, size, rows, [0] * size), [])
                    if size:
                        self.same(made_of(prime, size, rows, [0] * (size - 1) + [1]), None)

    def test_all(self):
        for prime in PRIMES:
            for size in SIZES:
                self.same(steps(prime, size, Numbers(size).undone(prime, size)), list(unit(size)))
                self.same(rank(prime, size, unit(size)), size)
                self.same(zeros(prime, size, unit(size)), [])

    def test_what_is_returned_is_new(self):
        rows = [(1, 0, 2), (0, 1, 1)]
        for function in (steps, zeros):
            function(3, 3, rows).clear()
            self.assertTrue(function(3, 3, rows))
        self.assertIsNot(steps(3, 3, rows), rows)
        self.assertEqual(rows, [(1, 0, 2), (0, 1, 1)])


class MadeOf(Case):

    def test_sums_of_multiples(self):
        for prime in PRIMES:
            for size in SIZES:
                numbers = Numbers(size)
                for rows, basis in samples(prime, size):
                    for row in rows[:5]:
                        rests = self.told(made_of, prime=prime, size=size, rows=rows, row=row)
                        self.assertEqual(len(rests), len(basis))
                        self.assertEqual(reckon.mixed(prime, size, rests, basis), tuple(row))
                    rests = numbers.row(prime, len(basis))
                    row = reckon.mixed(prime, size, rests, basis)
                    self.same(self.told(made_of, prime=prime, size=size, rows=rows, row=row), rests)
                    self.same(made_of(prime, size, rows, list(row)), rests)

    def test_none_where_the_rank_would_grow(self):
        for prime in PRIMES:
            for size in range(1, 7):
                for rows, basis in samples(prime, size):
                    firsts = [row.index(1) for row in basis]
                    for place in range(size):
                        # Such a row is nought at the first place of each step: it is no sum but by nought.
                        row = [3 % prime or 1 if at == place else 0 for at in range(size)]
                        if place not in firsts:
                            self.same(self.told(made_of, prime=prime, size=size, rows=rows, row=row), None)
                            row = reckon.mixed(prime, size, [1] * len(basis) + [1], basis + [row])
                            self.same(made_of(prime, size, rows, row), None)

    def test_against_all_rows(self):
        for prime, size, rows in listed_samples():
            if prime ** size > 400:
                continue
            made, told = reckon.spanned(prime, size, rows), steps(prime, size, rows)
            for row in all_rows(prime, size):
                rests = made_of(prime, size, rows, row)
                if row in made:
                    self.assertTrue(isinstance(rests, list) and reckon.plain_kind(tuple(rests)))
                    self.assertEqual(len(rests), len(told))
                    self.assertEqual(reckon.mixed(prime, size, rests, told), row)
                else:
                    self.same(rests, None)


class Zeros(Case):

    def test_against_all_rows(self):
        for prime, size, rows in listed_samples():
            got = self.told(zeros, prime=prime, size=size, rows=rows)
            self.assertTrue(reckon.in_steps(got), got)
            self.assertTrue(isinstance(got, list) and reckon.plain_kind(tuple(got)))
            wanted = {row for row in all_rows(prime, size)
                      if all(sum(a * b for a, b in zip(row, other)) % prime == 0 for other in rows)}
            self.assertEqual(reckon.spanned(prime, size, got), wanted)

    def test_how_many_and_their_zeros(self):
        for prime in PRIMES:
            for size in SIZES:
                for rows, basis in samples(prime, size):
                    got = self.told(zeros, prime=prime, size=size, rows=rows)
                    self.same(zeros(prime, size, tuple(tuple(row) for row in rows)), got)
                    self.assertTrue(reckon.in_steps(got), got)
                    self.assertEqual(len(got), size - len(basis))
                    for row in rows:
                        for zero in got:
                            self.assertEqual(sum(a * b for a, b in zip(row, zero)) % prime, 0)
                    self.same(zeros(prime, size, got), basis)


class Refused(Case):

    def test_prime(self):
        for value in NO_PRIMES:
            for size, rows in [(None, None), (2, [[1, 2]])]:
                for function in [steps, rank, zeros]:
                    self.refused(InvalidPrime, value, function, value, size, rows)
                    self.refused(InvalidPrime, value, function, rows=rows, size=size, prime=value)
                self.refused(InvalidPrime, value, made_of, value, size, rows, None)
                self.refused(InvalidPrime, value, made_of, row=[0, 0], rows=rows, size=size, prime=value)

    def test_size(self):
        for value in NO_SIZES:
            for rows in [None, [], [[0]]]:
                for function in [steps, rank, zeros]:
                    self.refused(InvalidSize, value, function, 3, value, rows)
                    self.refused(InvalidSize, value, function, rows=rows, size=value, prime=3)
                self.refused(InvalidSize, value, made_of, 3, value, rows, None)
                self.refused(InvalidSize, value, made_of, row=[0], rows=rows, size=value, prime=3)

    def test_rows(self):
        for prime in PRIMES:
            for size in [0, 1, 2, 6]:
                for value in no_row_lists(prime, size):
                    for function in [steps, rank, zeros]:
                        self.refused(InvalidRows, value, function, prime, size, value)
                        self.refused(InvalidRows, value, function, rows=value, size=size, prime=prime)
                    for row in [None, [0] * size]:
                        self.refused(InvalidRows, value, made_of, prime, size, value, row)
                        self.refused(InvalidRows, value, made_of, row=row, rows=value, size=size, prime=prime)

    def test_row(self):
        for prime in PRIMES:
            for size in SIZES:
                for value in no_rows(prime, size):
                    for rows in [[], unit(size)]:
                        self.refused(InvalidRow, value, made_of, prime, size, rows, value)
                        self.refused(InvalidRow, value, made_of, row=value, rows=rows, size=size, prime=prime)

    def test_40_rows_and_no_more(self):
        for size in SIZES:
            for rows in [[[1] * size] * 40, ((1,) * size,) * 40]:
                self.same(steps(3, size, rows), [(1,) * size] if size else [])
                self.same(rank(3, size, rows), min(size, 1))
                self.same(len(zeros(3, size, rows)), max(size - 1, 0))
                self.same(made_of(3, size, rows, [2] * size), [2] if size else [])
                for function in [steps, rank, zeros]:
                    self.refused(InvalidRows, rows + rows[:1], function, 3, size, rows + rows[:1])


if __name__ == "__main__":
    unittest.main()
