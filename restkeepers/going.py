"""Keepers that continue maps of a part, and keepers that lead parts to parts."""

from restkeepers.filling import bit_rests, whole_rows
from restkeepers.keeping import is_keeper
from restkeepers.kinds import alike_parts
from restkeepers.maps import goes_on, need_map
from restkeepers.parts import need_part
from restkeepers.rooms import need_room
from restkeepers.sums import mixed_rows, product_table, told_steps, undoing_table


def keeper_on(room, part, images):
    """A keeper that leads each row of the part to its image; None if there is none."""
    if not goes_on(room, part, images):
        return None
    bits = bit_rests(room, part)
    # The marks hold: so the same sums of the images are bits of what they span, with the same betweens.
    return keeper_between(room, whole_rows(room, part, bits), whole_rows(room, images, bits))


def continues(room, part, images, value):
    """Whether any value is a keeper that leads each row of the part to its image."""
    need_map(room, part, images)
    if not is_keeper(room, value):
        return False
    return mixed_rows(room.prime, room.size, part, value) == [tuple(row) for row in images]


def part_lead(room, part, other):
    """A keeper that leads the part to the other one; None if there is none."""
    if not alike_parts(room, part, other):
        return None
    # Of parts of one kind the bits have the same betweens, each part's told by its own rests.
    first = whole_rows(room, part, bit_rests(room, part))
    return keeper_between(room, first, whole_rows(room, other, bit_rests(room, other)))


def leads_part(room, part, other, value):
    """Whether any value is a keeper that leads the part to the other one."""
    need_room(room)
    need_part(room, part)
    need_part(room, other)
    if not is_keeper(room, value):
        return False
    led = told_steps(room.prime, room.size, mixed_rows(room.prime, room.size, part, value))
    return led == [tuple(row) for row in other]


def keeper_between(room, first, second):
    """The table that leads each of the first free rows, as many as the size, to the second one at its position."""
    return product_table(room.prime, undoing_table(room.prime, first), second)
