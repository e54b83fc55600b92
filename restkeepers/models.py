"""Rows of a room with wanted betweens: a room with these is put together, and led into the room."""

from restkeepers.likeness import lead
from restkeepers.plain import kind_of, plain_by
from restkeepers.rests import sign_rest
from restkeepers.rooms import Room
from restkeepers.sums import joined_tables

PAIR_TABLE = ((0, 1), (1, 0))


def pairs_sign(prime, pairs):
    """The sign of a room that is nothing but so many pairs [64]: that of -1, as often as there are pairs."""
    return sign_rest(prime, prime - 1) if pairs % 2 == 1 else 1


def model_rows(room, ones, sign, pairs):
    """As many free rows as the size: those of a plain room without still rows, of this rank and sign, then the two
    rows of each pair, then those of a plain room that ends in the still rows; all these at right angles.

    Only what fits into the room is asked for [45].
    """
    size, rank, whole = kind_of(room)
    table = plain_by(room.prime, (ones, ones, sign)).rows()
    for _ in range(pairs):
        table = joined_tables(table, PAIR_TABLE)
    left = (size - len(table), rank - len(table), whole * sign * pairs_sign(room.prime, pairs))
    behind = plain_by(room.prime, left).rows()
    return lead(Room(room.prime, joined_tables(table, behind)), room)


def most_pairs(room):
    """The pair count of the room [62]."""
    _, rank, sign = kind_of(room)
    half = rank // 2
    if rank % 2 == 1 or sign == pairs_sign(room.prime, half):
        return half
    return half - 1


def pair_model(room):
    """As many pairs as there are, one row behind the other, then the rows that are left, then still ones."""
    return model_rows(room, 0, 1, most_pairs(room))
