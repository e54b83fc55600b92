"""Nought parts: parts in which all worths are 0, and the greatest of them."""

from restkeepers.errors import NotNought
from restkeepers.going import part_lead
from restkeepers.models import most_pairs, pair_model
from restkeepers.parts import is_part, need_part, still_rests
from restkeepers.rooms import need_room
from restkeepers.sums import betweens_table, mixed_rows, told_steps


def is_nought(room, part):
    """Whether the worth of each sum of multiples of the part's rows is 0."""
    need_room(room)
    need_part(room, part)
    return sees_nothing(room, part)


def nought_size(room):
    """How many rows the greatest nought parts have."""
    need_room(room)
    return room.size - room.rank + most_pairs(room)


def nought_row(room):
    """A row of the worth 0 that is not still; None if there is none."""
    need_room(room)
    if most_pairs(room) == 0:
        return None
    return pair_model(room)[0]


def greatest_nought(room, part):
    """A greatest nought part that holds the part."""
    need_room(room)
    need_part(room, part)
    if not sees_nothing(room, part):
        raise NotNought()
    firsts, still = list(pair_model(room)[:2 * most_pairs(room):2]), room.still()
    share = len(still_rests(room, part))
    # A part of the same kind lies in a greatest one that is known: what leads it to the part leads that one as well.
    like = told_steps(room.prime, room.size, firsts[:len(part) - share] + still[:share])
    keeper = part_lead(room, like, part)
    return told_steps(room.prime, room.size, mixed_rows(room.prime, room.size, firsts + still, keeper))


def is_greatest(room, value):
    """Whether any value is a greatest nought part of the room."""
    return is_part(room, value) and len(value) == nought_size(room) and sees_nothing(room, value)


def sees_nothing(room, rows):
    """Whether the between of each two of the rows, a row with itself among them, is 0."""
    return not any([any(row) for row in betweens_table(room.prime, room.rows(), rows)])
