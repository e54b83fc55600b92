"""Kinds of a room's parts: which there are, and parts of them."""

from restkeepers.checks import fits_integer
from restkeepers.errors import InvalidKind
from restkeepers.models import model_rows, pairs_sign
from restkeepers.parts import need_part, room_among, still_rests
from restkeepers.plain import kind_of
from restkeepers.rooms import need_room
from restkeepers.sums import told_steps


def part_kind(room, part):
    """The kind of the part: its size, the rank and the sign of its own room, the size of its still part."""
    need_room(room)
    need_part(room, part)
    return kind_of(room_among(room, part)) + (len(still_rests(room, part)),)


def kinds(room):
    """The sorted list of all kinds of the room's parts."""
    size, whole, of_whole = kind_of(room)
    found = []
    for rank in range(whole + 1):
        for nulls in range((whole - rank) // 2 + 1):
            left = whole - rank - 2 * nulls
            for sign in signs_there(rank, left, of_whole * pairs_sign(room.prime, nulls)):
                for still in range(size - whole + 1):
                    found.append((rank + nulls + still, rank, sign, still))
    return sorted(found)


def is_kind(room, value):
    """Whether any value is the kind of some part of the room."""
    need_room(room)
    if not isinstance(value, tuple) or len(value) != 4:
        return False
    return all([fits_integer(number) for number in value]) and value in kinds(room)


def part_by(room, kind):
    """A part of the kind."""
    need_room(room)
    if not is_kind(room, kind):
        raise InvalidKind(kind)
    size, rank, sign, still = kind
    nulls = size - rank - still
    rows = model_rows(room, rank, sign, nulls)
    # One row of a pair alone is still in the part, and not still in the room.
    of_pairs = rows[rank:rank + 2 * nulls:2]
    return told_steps(room.prime, room.size, rows[:rank] + of_pairs + rows[room.size - still:])


def alike_parts(room, part, other):
    """Whether both parts have one kind."""
    return part_kind(room, part) == part_kind(room, other)


def signs_there(rank, left, needed):
    """The signs of the own rooms of this rank, where this much of the room's rank is left beside them and beside the
    pairs for rows that are still there alone; the needed one if nothing is.
    """
    if rank == 0:
        return [1] if left > 0 or needed == 1 else []
    # What is left makes up for each sign.
    return [1, -1] if left > 0 else [needed]
