"""Keepers and parts of a room counted: all of them, those of a kind, those that hold or fix a part."""

from restkeepers.checks import fits_integer
from restkeepers.errors import InvalidKind, TooMany
from restkeepers.frames import frame_number
from restkeepers.kinds import is_kind, part_kind
from restkeepers.models import pairs_sign
from restkeepers.plain import kind_of
from restkeepers.rooms import need_room
from restkeepers.rowcounts import every_row
from restkeepers.sums import power

MOST_ROWS_LISTED = 400


def keeper_count(room):
    """How many keepers the room has."""
    need_room(room)
    return keeper_number(room.prime, kind_of(room))


def part_count(room, kind):
    """How many parts of the kind the room has."""
    need_room(room)
    need_four(kind)
    if not is_kind(room, kind):
        return 0
    size, rank, sign, still = kind
    whole, whole_rank, whole_sign = kind_of(room)
    others, all_still = size - still, whole - whole_rank
    own = (others, rank, sign)
    # Without still rows: frames with one table of betweens, over those that span one part.
    spans = frame_number(room.prime, (whole_rank, whole_rank, whole_sign), own) // keeper_number(room.prime, own)
    choices = choice_number(room.prime, all_still, still)
    return choices * power(room.prime, others * (all_still - still)) * spans


def parts_with(room, kind):
    """The sorted list of the parts of the kind."""
    need_room(room)
    need_four(kind)
    if power(room.prime, room.size) > MOST_ROWS_LISTED:
        raise TooMany("rows", MOST_ROWS_LISTED)
    found = [part for part in every_part(room.prime, room.size) if len(part) == kind[0]]
    return sorted([part for part in found if part_kind(room, part) == kind])


def fixing_count(room, part):
    """How many keepers lead each row of the part to itself."""
    size, rank, sign, still = part_kind(room, part)
    others = size - still
    # Still rows are led to still rows anyhow, the others as their own room lets, anything still added.
    within = undone_number(room.prime, still) * keeper_number(room.prime, (others, rank, sign))
    return holding_count(room, part) // (within * power(room.prime, still * others))


def holding_count(room, part):
    """How many keepers lead the part to itself."""
    alike = part_count(room, part_kind(room, part))
    return keeper_number(room.prime, kind_of(room)) // alike


def need_four(kind):
    """Raise InvalidKind unless the kind is a tuple of four INTEGERS."""
    if not isinstance(kind, tuple) or len(kind) != 4 or not all([fits_integer(number) for number in kind]):
        raise InvalidKind(kind)


def keeper_number(prime, kind):
    """How many keepers a room of the kind has [81]."""
    size, rank, sign = kind
    still = size - rank
    return wholly_number(prime, rank, sign) * undone_number(prime, still) * power(prime, still * rank)


def wholly_number(prime, rank, sign):
    """How many keepers a room of the rank and the sign without still rows has."""
    if rank == 0:
        return 1
    half = rank // 2
    if rank % 2 == 1:
        total = 2 * power(prime, half * half)
    else:
        total = 2 * power(prime, half * (half - 1)) * (power(prime, half) - sign * pairs_sign(prime, half))
    for at in range(1, (rank + 1) // 2):
        total = total * (power(prime, 2 * at) - 1)
    return total


def undone_number(prime, size):
    """How many undone tables of the size there are."""
    total = 1
    for at in range(size):
        total = total * (power(prime, size) - power(prime, at))
    return total


def choice_number(prime, many, few):
    """How many parts with so few rows a part with many rows has."""
    above, below = 1, 1
    for at in range(few):
        above = above * (power(prime, many - at) - 1)
        below = below * (power(prime, at + 1) - 1)
    return above // below


def every_part(prime, size):
    """All lists in steps of rows of the size."""
    found = [[]]
    for place in range(size):
        more = []
        for part in found:
            # The new place is that of a new step, or each step has any rest there.
            more.append([row + (0,) for row in part] + [(0,) * place + (1,)])
            for rests in every_row(prime, len(part)):
                more.append([row + (rest,) for row, rest in zip(part, rests)])
        found = more
    return found
