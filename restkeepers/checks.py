"""What values of any kind are, and the errors of parameters that are not what is wanted.

The functions that begin with `fits` never raise; those that begin with `need` raise or do nothing.
"""

from restkeepers.errors import (
    InvalidPrime,
    InvalidRest,
    InvalidRow,
    InvalidRows,
    InvalidSize,
    InvalidTable,
)

PRIMES = (3, 5, 7, 11, 13)
MOST_SIZE = 6
MOST_ROWS = 40


def fits_integer(value):
    """Whether the value is an INTEGER: True and False are none."""
    return isinstance(value, int) and not isinstance(value, bool)


def fits_count(value, bound):
    """Whether the value is a COUNT below the bound."""
    return fits_integer(value) and 0 <= value < bound


def fits_prime(value):
    """Whether the value is one of the primes."""
    return fits_integer(value) and value in PRIMES


def fits_row(prime, size, value):
    """Whether the value is a row of this size."""
    if not isinstance(value, (list, tuple)) or len(value) != size:
        return False
    return all([fits_count(rest, prime) for rest in value])


def fits_rows(prime, size, value):
    """Whether the value is a list of rows of this size, however many."""
    if not isinstance(value, (list, tuple)):
        return False
    return all([fits_row(prime, size, row) for row in value])


def fits_table(prime, size, value):
    """Whether the value is a table of this size."""
    return fits_rows(prime, size, value) and len(value) == size


def fits_any_row(prime, value):
    """Whether the value is a row of a size from 0 to 6."""
    if not isinstance(value, (list, tuple)) or len(value) > MOST_SIZE:
        return False
    return fits_row(prime, len(value), value)


def fits_any_table(prime, value):
    """Whether the value is a table of a size from 0 to 6."""
    if not isinstance(value, (list, tuple)) or len(value) > MOST_SIZE:
        return False
    return fits_table(prime, len(value), value)


def fits_symmetric(prime, value):
    """Whether the value is a symmetric table of a size from 0 to 6."""
    if not fits_any_table(prime, value):
        return False
    size = len(value)
    return all([value[at][place] == value[place][at] for at in range(size) for place in range(at)])


def need_prime(prime):
    """Raise InvalidPrime unless the prime is one."""
    if not fits_prime(prime):
        raise InvalidPrime(prime)


def need_rest(prime, rest):
    """Raise InvalidRest unless the rest is one by the prime."""
    if not fits_count(rest, prime):
        raise InvalidRest(rest)


def need_size(size):
    """Raise InvalidSize unless the size is from 0 to 6."""
    if not fits_count(size, MOST_SIZE + 1):
        raise InvalidSize(size)


def need_row(prime, size, row):
    """Raise InvalidRow unless the row is one of this size."""
    if not fits_row(prime, size, row):
        raise InvalidRow(row)


def need_rows(prime, size, rows):
    """Raise InvalidRows unless the rows are 0 to 40 rows of this size."""
    if not fits_rows(prime, size, rows) or len(rows) > MOST_ROWS:
        raise InvalidRows(rows)


def need_table(prime, size, table):
    """Raise InvalidTable unless the table is one of this size."""
    if not fits_table(prime, size, table):
        raise InvalidTable(table)


def need_any_row(prime, row):
    """Raise InvalidRow unless the row is one of a size from 0 to 6."""
    if not fits_any_row(prime, row):
        raise InvalidRow(row)


def need_any_table(prime, table):
    """Raise InvalidTable unless the table is one of a size from 0 to 6."""
    if not fits_any_table(prime, table):
        raise InvalidTable(table)
