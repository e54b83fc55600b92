"""What leads a room to another one or keeps its betweens, what bends them, and right angles."""

from restkeepers.checks import fits_count, fits_table, need_row, need_rows, need_table
from restkeepers.rooms import need_room
from restkeepers.sums import betweens_table, determinant_of, mixed_row, zero_steps


def is_lead(room, other, value):
    """Whether any value is a lead from the room to the other one."""
    need_room(room)
    need_room(other)
    if room.prime != other.prime or room.size != other.size:
        return False
    if not fits_table(room.prime, room.size, value) or determinant_of(room.prime, value) == 0:
        return False
    return other.led(value) == room


def is_keeper(room, value):
    """Whether any value is a keeper of the room."""
    return is_lead(room, room, value)


def bend(room, table):
    """The first bend of the table in the room; None if there is none."""
    need_room(room)
    need_table(room.prime, room.size, table)
    kept, led = room.rows(), betweens_table(room.prime, room.rows(), table)
    for first in range(room.size):
        for second in range(first, room.size):
            if led[first][second] != kept[first][second]:
                return (first, second)
    return None


def is_bend(room, table, value):
    """Whether any value is a bend of the table in the room."""
    need_room(room)
    need_table(room.prime, room.size, table)
    if not isinstance(value, tuple) or len(value) != 2:
        return False
    first, second = value
    if not fits_count(second, room.size) or not fits_count(first, second + 1):
        return False
    return room.between(table[first], table[second]) != room.rows()[first][second]


def is_still(room, row):
    """Whether the between of the row with each row is 0."""
    need_room(room)
    need_row(room.prime, room.size, row)
    return not any(mixed_row(room.prime, room.size, row, room.rows()))


def right_angles(room, rows):
    """The told steps of all rows at right angles to these."""
    need_room(room)
    need_rows(room.prime, room.size, rows)
    betweens = [mixed_row(room.prime, room.size, row, room.rows()) for row in rows]
    return zero_steps(room.prime, room.size, betweens)
