"""Rooms that are alike, and what leads one to another one."""

from restkeepers.plain import kind_of, plain_lead
from restkeepers.rooms import need_room
from restkeepers.sums import product_table, undoing_table


def alike(room, other):
    """Whether there is a lead from the room to the other one."""
    need_room(room)
    need_room(other)
    return room.prime == other.prime and kind_of(room) == kind_of(other)


def lead(room, other):
    """A lead from the room to the other one; None if there is none."""
    if not alike(room, other):
        return None
    # Both are led to one plain room: so the way there from the one, undone, goes on from the other.
    back = undoing_table(room.prime, plain_lead(room))
    return product_table(room.prime, back, plain_lead(other))
