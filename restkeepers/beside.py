"""Rooms side by side, rooms times a rest, and what is left of a room beside another one."""

from restkeepers.checks import MOST_SIZE, need_rest
from restkeepers.errors import TooMany, UnlikePrimes
from restkeepers.plain import kind_of, plain_by
from restkeepers.rooms import Room, need_room
from restkeepers.sums import joined_tables, scaled_row


def beside(room, other):
    """The room with the other one beside it."""
    need_alike_primes(room, other)
    if room.size + other.size > MOST_SIZE:
        raise TooMany("size", MOST_SIZE)
    return Room(room.prime, joined_tables(room.rows(), other.rows()))


def scaled(room, rest):
    """The room times the rest."""
    need_room(room)
    need_rest(room.prime, rest)
    return Room(room.prime, [scaled_row(room.prime, rest, row) for row in room.rows()])


def taken_off(room, other):
    """The plain room beside which the other one is alike to the room; None if there is none."""
    need_alike_primes(room, other)
    size, rank, sign = kind_of(room)
    less, lower, share = kind_of(other)
    left, still = rank - lower, (size - rank) - (less - lower)
    # A sign is its own inverse; without rank there is one sign alone.
    if left < 0 or still < 0 or (left == 0 and sign != share):
        return None
    return plain_by(room.prime, (left + still, left, sign * share))


def need_alike_primes(room, other):
    """Raise the error of the first that is no Room; UnlikePrimes unless both have one prime."""
    need_room(room)
    need_room(other)
    if room.prime != other.prime:
        raise UnlikePrimes()
