"""How many rows of a room have a worth, and which."""

from restkeepers.checks import need_rest
from restkeepers.errors import TooMany
from restkeepers.models import pairs_sign
from restkeepers.plain import kind_of
from restkeepers.rests import sign_rest
from restkeepers.rooms import need_room
from restkeepers.sums import power

MOST_LISTED = 2500


def row_count(room, rest):
    """How many rows have the worth."""
    need_room(room)
    need_rest(room.prime, rest)
    size, rank, sign = kind_of(room)
    return worth_number(room.prime, rank, sign, rest) * power(room.prime, size - rank)


def worth_counts(room):
    """How many rows have the worths 0, 1, .., one number for each rest."""
    need_room(room)
    return [row_count(room, rest) for rest in range(room.prime)]


def rows_of(room, rest):
    """The sorted list of the rows of the worth."""
    need_room(room)
    need_rest(room.prime, rest)
    if power(room.prime, room.size) > MOST_LISTED:
        raise TooMany("rows", MOST_LISTED)
    return [row for row in every_row(room.prime, room.size) if room.worth(row) == rest]


def worth_number(prime, rank, sign, rest):
    """How many rows of a room of the rank and the sign, without still rows, have the worth [71]."""
    if rank == 0:
        return 1 if rest == 0 else 0
    half = rank // 2
    turned = sign * pairs_sign(prime, half)
    if rank % 2 == 1:
        return power(prime, 2 * half) + sign_rest(prime, rest) * turned * power(prime, half)
    less = turned * power(prime, half - 1)
    if rest == 0:
        return power(prime, 2 * half - 1) + turned * power(prime, half) - less
    return power(prime, 2 * half - 1) - less


def every_row(prime, size):
    """All rows of the size, sorted."""
    rows = [()]
    for _ in range(size):
        rows = [row + (rest,) for row in rows for rest in range(prime)]
    return rows
