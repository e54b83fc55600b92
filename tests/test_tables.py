"""Tables: products, rows led, tables turned about, determinants, tables undone."""

import unittest

from restkeepers.errors import InvalidPrime, InvalidRow, InvalidSize, InvalidTable, NotUndone, UnlikeSizes
from restkeepers.tables import about, determinant, idle, is_row, is_table, led_row, times, undone
from tests import reckon
from tests.cases import Case
from tests.reckon import NO_PRIMES, NO_SIZES, PRIMES, Numbers, all_rows, no_rows, no_tables, unit

SIZES = range(7)


def tuples(rows):
    return tuple(tuple(row) for row in rows)


def samples(prime, size):
    """Tables of all ranks, some with noughts at many places."""
    numbers = Numbers(100 * prime + size)
    found = [numbers.low_table(prime, size, rank) for rank in range(size + 1)]
    found += [numbers.table(prime, size) for _ in range(6)] + [[list(row) for row in unit(size)]]
    return found + [[[rest * numbers.below(2) for rest in row] for row in table] for table in found[-4:]]


class Judges(Case):

    def test_rows(self):
        for prime in PRIMES:
            for size in SIZES:
                row = Numbers(prime + size).row(prime, size)
                for value in [row, tuple(row), [0] * size, (prime - 1,) * size]:
                    self.judged(True, value, is_row, prime, value)
                    self.judged(True, value, is_row, prime=prime, value=value)
            for value in no_rows(prime, None):
                self.judged(False, value, is_row, prime, value)

    def test_tables(self):
        for prime in PRIMES:
            for size in SIZES:
                table = Numbers(prime + size).table(prime, size)
                mixed = [tuple(row) if at % 2 else row for at, row in enumerate(table)]
                for value in [table, tuples(table), mixed, tuple(mixed), [[prime - 1] * size] * size]:
                    self.judged(True, value, is_table, prime, value)
                    self.judged(True, value, is_table, prime=prime, value=value)
            for value in no_tables(prime, None):
                self.judged(False, value, is_table, prime, value)

    def test_all_small_tables(self):
        for a in range(-1, 5):
            self.judged(0 <= a < 3, a, is_table, 3, [[a]])
            for b in range(-1, 5):
                self.judged(0 <= a < 3 and 0 <= b < 3, (a, b), is_table, 3, [[0, b], (a, 1)])
                self.judged(0 <= a < 3 and 0 <= b < 3, (a, b), is_row, 3, (a, b))


class Reckoned(Case):

    def test_idle(self):
        for size in SIZES:
            self.same(self.told(idle, size=size), unit(size))

    def test_products(self):
        for prime in PRIMES:
            for size in SIZES:
                tables = samples(prime, size)
                for table, other in zip(tables, tables[3:] + tables[:3]):
                    wanted = reckon.multiplied(prime, table, other)
                    self.same(self.told(times, prime=prime, table=table, other=other), wanted)
                    self.same(times(prime, tuples(table), tuples(other)), wanted)

    def test_rows_led(self):
        for prime in PRIMES:
            for size in SIZES:
                row = Numbers(prime + size).row(prime, size)
                for table in samples(prime, size):
                    wanted = tuple(sum(row[i] * table[i][j] for i in range(size)) % prime for j in range(size))
                    self.same(self.told(led_row, prime=prime, row=row, table=table), wanted)
                    self.same(led_row(prime, tuple(row), tuples(table)), wanted)

    def test_led_by_a_product(self):
        for prime in PRIMES:
            for size in SIZES:
                row, table, other = Numbers(size).row(prime, size), *samples(prime, size)[-6:-4]
                self.assertEqual(led_row(prime, led_row(prime, row, table), other),
                                 led_row(prime, row, times(prime, table, other)))
                self.assertEqual(led_row(prime, row, idle(size)), tuple(row))

    def test_about(self):
        for prime in PRIMES:
            for size in SIZES:
                for table in samples(prime, size):
                    wanted = tuple(tuple(table[i][j] for i in range(size)) for j in range(size))
                    self.same(self.told(about, prime=prime, table=table), wanted)
                    self.same(about(prime, tuples(table)), wanted)

    def test_determinants(self):
        for prime in PRIMES:
            for size in SIZES:
                for table in samples(prime, size)[:None if size < 6 else 9]:
                    wanted = reckon.determinant(prime, table)
                    self.same(self.told(determinant, prime=prime, table=table), wanted)
                    self.same(determinant(prime, tuples(table)), wanted)

    def test_determinants_of_all_tables_of_size_2(self):
        for prime in (3, 5):
            for a, b, c, d in all_rows(prime, 4):
                self.same(determinant(prime, [[a, b], [c, d]]), (a * d - b * c) % prime)

    def test_determinants_where_rows_change_places(self):
        for prime in PRIMES:
            for size in range(2, 7):
                rows = list(unit(size))
                for first in range(size):
                    for second in range(first):
                        swapped = list(rows)
                        swapped[first], swapped[second] = swapped[second], swapped[first]
                        self.same(determinant(prime, swapped), prime - 1)
                self.same(determinant(prime, rows[1:] + rows[:1]), 1 if size % 2 else prime - 1)

    def test_undone_exactly_if_the_determinant_is_not_0(self):
        for prime in PRIMES:
            for size in SIZES:
                for table in samples(prime, size):
                    if determinant(prime, table) == 0:
                        self.raised(NotUndone, undone, prime, table)
                        self.raised(NotUndone, undone, prime=prime, table=tuples(table))
                    else:
                        got = self.told(undone, prime=prime, table=table)
                        self.same(undone(prime, tuples(table)), got)
                        self.same(reckon.multiplied(prime, table, got), unit(size))
                        self.same(reckon.multiplied(prime, got, table), unit(size))
                        self.same(got, tuples(got))
                        self.assertTrue(is_table(prime, got) and reckon.plain_kind(got))

    def test_undone_tables_of_all_sizes(self):
        for prime in PRIMES:
            for size in SIZES:
                table = Numbers(7 * size).undone(prime, size)
                self.same(reckon.multiplied(prime, undone(prime, table), table), unit(size))
                self.same(undone(prime, undone(prime, table)), tuples(table))
                if size:
                    table[-1] = [2 * rest % prime for rest in table[0]] if size > 1 else [0]
                    self.raised(NotUndone, undone, prime, table)

    def test_undone_by_one_alone(self):
        for a, b, c, d in all_rows(3, 4):
            table = ((a, b), (c, d))
            by = [((e, f), (g, h)) for e, f, g, h in all_rows(3, 4)
                  if reckon.multiplied(3, table, ((e, f), (g, h))) == unit(2)]
            if by:
                self.same([undone(3, table)], by)
            else:
                self.raised(NotUndone, undone, 3, table)

    def test_determinants_of_products_and_of_tables_turned_about(self):
        for prime in PRIMES:
            for size in SIZES:
                tables = samples(prime, size)
                for table, other in zip(tables, tables[1:] + tables[:1]):
                    self.assertEqual(determinant(prime, times(prime, table, other)),
                                     determinant(prime, table) * determinant(prime, other) % prime)
                    self.assertEqual(determinant(prime, about(prime, table)), determinant(prime, table))
                    self.assertEqual(about(prime, times(prime, table, other)),
                                     times(prime, about(prime, other), about(prime, table)))

    def test_size_0(self):
        for prime in PRIMES:
            for none in ([], ()):
                self.same(determinant(prime, none), 1)
                self.same(undone(prime, none), ())
                self.same(about(prime, none), ())
                self.same(times(prime, none, []), ())
                self.same(led_row(prime, none, []), ())
        self.same(idle(0), ())


class Refused(Case):

    def test_prime(self):
        for value in NO_PRIMES:
            for wrong in [None, [[1]]]:
                self.refused(InvalidPrime, value, is_row, value, wrong)
                self.refused(InvalidPrime, value, is_table, value, wrong)
                self.refused(InvalidPrime, value, times, value, wrong, wrong)
                self.refused(InvalidPrime, value, times, other=[], table=wrong, prime=value)
                self.refused(InvalidPrime, value, led_row, value, wrong, wrong)
                self.refused(InvalidPrime, value, led_row, value, [1], [])
                for function in [about, determinant, undone]:
                    self.refused(InvalidPrime, value, function, value, wrong)
                    self.refused(InvalidPrime, value, function, table=wrong, prime=value)

    def test_size(self):
        for value in NO_SIZES:
            self.refused(InvalidSize, value, idle, value)
            self.refused(InvalidSize, value, idle, size=value)

    def test_table(self):
        for prime in PRIMES:
            for value in no_tables(prime, None):
                for function in [about, determinant, undone]:
                    self.refused(InvalidTable, value, function, prime, value)
                    self.refused(InvalidTable, value, function, table=value, prime=prime)
                for other in [None, [], [[1]], [[prime]]]:
                    self.refused(InvalidTable, value, times, prime, value, other)
                for table in [[], [[1]], unit(6)]:
                    self.refused(InvalidTable, value, times, prime, table, value)
                    self.refused(InvalidTable, value, times, other=value, table=table, prime=prime)
                for row in [[], [1], (0,) * 6]:
                    self.refused(InvalidTable, value, led_row, prime, row, value)

    def test_row(self):
        for prime in PRIMES:
            for value in no_rows(prime, None):
                for table in [None, [[prime]], [], [[1]], unit(6)]:
                    self.refused(InvalidRow, value, led_row, prime, value, table)
                    self.refused(InvalidRow, value, led_row, table=table, row=value, prime=prime)

    def test_unlike_sizes(self):
        for size in SIZES:
            for other in SIZES:
                if size != other:
                    self.raised(UnlikeSizes, times, 5, unit(size), unit(other))
                    self.raised(UnlikeSizes, times, prime=5, table=unit(size), other=[list(row) for row in unit(other)])
                    self.raised(UnlikeSizes, led_row, 5, [1] * size, unit(other))
                    self.raised(UnlikeSizes, led_row, prime=5, row=(1,) * size, table=unit(other))

    def test_not_undone(self):
        for prime in PRIMES:
            for table in [[[0]], ((0,),), [[1, 2], [2, 4 % prime]], [[0] * 6] * 6, [[1] * 6] * 6]:
                self.raised(NotUndone, undone, prime, table)


if __name__ == "__main__":
    unittest.main()
