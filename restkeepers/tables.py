"""Rows and tables of rests by a prime, of the sizes 0 to 6."""

from restkeepers.checks import (
    fits_any_row,
    fits_any_table,
    need_any_row,
    need_any_table,
    need_prime,
    need_size,
)
from restkeepers.errors import NotUndone, UnlikeSizes
from restkeepers.sums import (
    determinant_of,
    idle_table,
    mixed_row,
    product_table,
    turned_table,
    undoing_table,
)


def is_row(prime, value):
    """Whether any value is a list of 0 to 6 rests."""
    need_prime(prime)
    return fits_any_row(prime, value)


def is_table(prime, value):
    """Whether any value is a table of a size from 0 to 6."""
    need_prime(prime)
    return fits_any_table(prime, value)


def idle(size):
    """The table of the size that leads each row to itself."""
    need_size(size)
    return idle_table(size)


def times(prime, table, other):
    """The product table times other."""
    need_prime(prime)
    need_any_table(prime, table)
    need_any_table(prime, other)
    if len(table) != len(other):
        raise UnlikeSizes()
    return product_table(prime, table, other)


def led_row(prime, row, table):
    """The row to which the table leads the row."""
    need_prime(prime)
    need_any_row(prime, row)
    need_any_table(prime, table)
    if len(row) != len(table):
        raise UnlikeSizes()
    return mixed_row(prime, len(row), row, table)


def about(prime, table):
    """The table turned about: its columns as rows."""
    need_prime(prime)
    need_any_table(prime, table)
    return turned_table(table)


def determinant(prime, table):
    """The determinant of the table, a rest."""
    need_prime(prime)
    need_any_table(prime, table)
    return determinant_of(prime, table)


def undone(prime, table):
    """The table by which the table is undone."""
    need_prime(prime)
    need_any_table(prime, table)
    found = undoing_table(prime, table)
    if found is None:
        raise NotUndone()
    return found
