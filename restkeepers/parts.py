"""Parts of a room: their own rooms, still parts, sums, meetings, and what lies beside them."""

from restkeepers.checks import fits_rows, need_rows
from restkeepers.errors import InvalidPart
from restkeepers.rooms import Room, need_room
from restkeepers.sums import (
    betweens_table,
    filling_rows,
    idle_table,
    mixed_rows,
    nought_rests,
    told_steps,
    zero_steps,
)


def is_part(room, value):
    """Whether any value is a part of the room."""
    need_room(room)
    return fits_steps(room.prime, room.size, value)


def part_of(room, rows):
    """The part that the rows make."""
    need_room(room)
    need_rows(room.prime, room.size, rows)
    return told_steps(room.prime, room.size, rows)


def own_room(room, part):
    """The part's own room."""
    need_room(room)
    need_part(room, part)
    return room_among(room, part)


def still_in(room, part):
    """The part of all rows of the part that are still in the whole room."""
    need_room(room)
    need_part(room, part)
    found = mixed_rows(room.prime, room.size, still_rests(room, part), part)
    return told_steps(room.prime, room.size, found)


def sum_of(room, part, other):
    """The part that the rows of both parts make."""
    need_room(room)
    need_part(room, part)
    need_part(room, other)
    return told_steps(room.prime, room.size, list(part) + list(other))


def meeting(room, part, other):
    """The part of all rows for which both parts stand."""
    need_room(room)
    need_part(room, part)
    need_part(room, other)
    # A part is the zeros of its zeros [15]: so what both stand for are the zeros of the zeros of both.
    zeros = zero_steps(room.prime, room.size, part) + zero_steps(room.prime, room.size, other)
    return zero_steps(room.prime, room.size, zeros)


def beside_part(room, part):
    """A part that meets the part in nought alone, and makes the whole room with it."""
    need_room(room)
    need_part(room, part)
    return filling_rows(room.prime, room.size, part, idle_table(room.size))


def fits_steps(prime, size, value):
    """Whether the value is a list in steps of rows of this size."""
    if not fits_rows(prime, size, value):
        return False
    # Rows in steps are their own told steps, others are not.
    return told_steps(prime, size, value) == [tuple(row) for row in value]


def need_part(room, part):
    """Raise InvalidPart unless the part is one of the room."""
    if not is_part(room, part):
        raise InvalidPart(part)


def room_among(room, rows):
    """The room that has the betweens of the rows as its table."""
    return Room(room.prime, betweens_table(room.prime, room.rows(), rows))


def still_rests(room, rows):
    """The told steps of all rests by which the rows, multiplied and added up, make a still row."""
    seen = mixed_rows(room.prime, room.size, rows, room.rows())
    return nought_rests(room.prime, room.size, seen)
