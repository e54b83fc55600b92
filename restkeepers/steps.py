"""Told steps of rows, their rank, their zeros, and what they make."""

from restkeepers.checks import need_prime, need_row, need_rows, need_size
from restkeepers.sums import first_place, mixed_row, told_steps, zero_steps


def steps(prime, size, rows):
    """The told steps of the rows, a list of rows."""
    need_prime(prime)
    need_size(size)
    need_rows(prime, size, rows)
    return told_steps(prime, size, rows)


def rank(prime, size, rows):
    """How many told steps the rows have."""
    return len(steps(prime, size, rows))


def zeros(prime, size, rows):
    """The told steps of the zeros of the rows."""
    need_prime(prime)
    need_size(size)
    need_rows(prime, size, rows)
    return zero_steps(prime, size, rows)


def made_of(prime, size, rows, row):
    """The rests by which the row is the sum of the told steps; None if it is no sum of multiples."""
    told = steps(prime, size, rows)
    need_row(prime, size, row)
    # No other step has a rest at the first place of a step: so the row tells each multiple there.
    rests = [row[first_place(step)] for step in told]
    if mixed_row(prime, size, rests, told) != tuple(row):
        return None
    return rests
