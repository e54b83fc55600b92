"""Rooms in squares, plain rooms, and the kinds of rooms."""

from restkeepers.checks import MOST_SIZE, fits_count, fits_integer, need_prime
from restkeepers.errors import InvalidKind
from restkeepers.rests import least_odd, root, sign_rest
from restkeepers.rooms import Room, need_room
from restkeepers.sums import added_row, dot, idle_table, inverse, mixed_row, scaled_row


def kind_of(room):
    """The kind of the room: its size, its rank and its sign."""
    need_room(room)
    sign = 1
    for row in squares_lead(room)[:room.rank]:
        sign = sign * sign_rest(room.prime, room.worth(row))
    return (room.size, room.rank, sign)


def plain_room(room):
    """The plain room of the room's kind."""
    need_room(room)
    return plain_by(room.prime, kind_of(room))


def plain_by(prime, kind):
    """The plain room of the kind, by the prime."""
    need_prime(prime)
    if not fits_kind(kind):
        raise InvalidKind(kind)
    size, ones, sign = kind
    squares = [1] * ones + [0] * (size - ones)
    if sign == -1:
        squares[ones - 1] = least_odd(prime)
    return Room(prime, [scaled_row(prime, rest, row) for rest, row in zip(squares, idle_table(size))])


def squares_lead(room):
    """A table by which the room is led to one in squares, rests that are not 0 first."""
    need_room(room)
    done, left = [], list(idle_table(room.size))
    while left:
        left = with_worth_first(room, left)
        first = left[0]
        if room.worth(first) == 0:
            # No between among the rows that are left is another than 0: they are still.
            return tuple(done + left)
        done.append(first)
        left = set_right(room, left[1:], first)
    return tuple(done)


def plain_lead(room):
    """A table by which the room is led to the plain room of its kind."""
    rows = list(squares_lead(room))
    for at in range(room.rank - 1):
        rows[at:at + 2] = one_first(room, rows[at], rows[at + 1])
    if room.rank > 0:
        rows[room.rank - 1] = made_least(room, rows[room.rank - 1])
    return tuple(rows)


def fits_kind(value):
    """Whether the value is the kind of some room."""
    if not isinstance(value, tuple) or len(value) != 3:
        return False
    size, ones, sign = value
    if not fits_count(size, MOST_SIZE + 1) or not fits_count(ones, size + 1) or not fits_integer(sign):
        return False
    return sign == 1 or (sign == -1 and ones > 0)


def with_worth_first(room, rows):
    """Rows that span the same, the first one with a worth that is not 0, if any sum of multiples has one."""
    for at, row in enumerate(rows):
        if room.worth(row) != 0:
            return [row] + rows[:at] + rows[at + 1:]
    for at, row in enumerate(rows):
        for other in rows[:at]:
            if room.between(row, other) != 0:
                # Both worths are 0: so the sum has twice the between as its worth.
                return [added_row(room.prime, row, 1, other)] + rows[:at] + rows[at + 1:]
    return rows


def set_right(room, rows, other):
    """The rows, each less so much of the other one that it stands at right angles to it."""
    seen = mixed_row(room.prime, room.size, other, room.rows())
    share = inverse(room.prime, dot(room.prime, seen, other))
    return [added_row(room.prime, row, -dot(room.prime, seen, row) * share, other) for row in rows]


def one_first(room, row, other):
    """Two rows at right angles that span the same as these two, the first one with the worth 1."""
    worth, beside = room.worth(row), room.worth(other)
    x, y = told_one(room.prime, worth, beside)
    first = mixed_row(room.prime, room.size, (x, y), (row, other))
    return [first, mixed_row(room.prime, room.size, (-beside * y, worth * x), (row, other))]


def told_one(prime, worth, beside):
    """Rests x and y for which worth x x and beside y y add up to 1; neither number is 0."""
    share = inverse(prime, beside)
    x = 0
    # Two for one [32]: some x leaves a square for y, so this ends.
    while root(prime, (1 - worth * x * x) * share % prime) is None:
        x += 1
    return (x, root(prime, (1 - worth * x * x) * share % prime))


def made_least(room, row):
    """The multiple of the row with the worth 1, or with the least odd rest as its worth."""
    prime, worth = room.prime, room.worth(row)
    if sign_rest(prime, worth) == -1:
        worth = worth * inverse(prime, least_odd(prime)) % prime
    return scaled_row(prime, inverse(prime, root(prime, worth)), row)
