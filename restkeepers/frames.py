"""Frames of a room: rows with wanted betweens of which no sum of multiples is still."""

from restkeepers.checks import fits_rows, fits_symmetric
from restkeepers.errors import InvalidMates, TooMany
from restkeepers.models import model_rows, pairs_sign
from restkeepers.parts import still_rests
from restkeepers.plain import kind_of, plain_by, plain_lead
from restkeepers.rests import sign_rest
from restkeepers.rooms import Room, need_room
from restkeepers.rowcounts import MOST_LISTED, every_row, worth_number
from restkeepers.sums import betweens_table, dot, mixed_row, mixed_rows, power, undoing_table

MOST_FRAMES = 400


def is_frame(room, mates, value):
    """Whether any value is a frame of the room with the mates."""
    need_room(room)
    need_mates(room, mates)
    if not fits_rows(room.prime, room.size, value) or len(value) != len(mates):
        return False
    if betweens_table(room.prime, room.rows(), value) != tuple([tuple(row) for row in mates]):
        return False
    return not still_rests(room, value)


def frame_count(room, mates):
    """How many frames with the mates the room has."""
    need_room(room)
    need_mates(room, mates)
    return frame_number(room.prime, kind_of(room), kind_of(Room(room.prime, mates)))


def a_frame(room, mates):
    """A frame of the room with the mates; None without one."""
    if frame_count(room, mates) == 0:
        return None
    own = Room(room.prime, mates)
    size, rank, sign = kind_of(own)
    rows = model_rows(room, rank, sign, size - rank)
    # One row of a pair has the worth 0, and is not still beside its partner.
    plain = rows[:rank] + rows[rank:rank + 2 * (size - rank):2]
    # These are a frame with the plain mates: what led the mates there leads it back, undone [73].
    return mixed_rows(room.prime, room.size, undoing_table(room.prime, plain_lead(own)), plain)


def frames(room, mates):
    """The sorted list of all frames of the room with the mates."""
    count = frame_count(room, mates)
    if power(room.prime, room.size) > MOST_LISTED:
        raise TooMany("rows", MOST_LISTED)
    if count > MOST_FRAMES:
        raise TooMany("frames", MOST_FRAMES)
    # Frames with the first mates alone all go on in as many ways: so no more of them are met than there are in the end.
    found = [[]] if count > 0 else []
    rows = every_row(room.prime, room.size)
    for at, wanted in enumerate(mates):
        ready = [row for row in rows if room.worth(row) == wanted[at]]
        found = [frame + [row] for frame in found for row in next_rows(room, wanted, frame, ready)]
    return found


def need_mates(room, mates):
    """Raise InvalidMates unless the mates are a symmetric table by the room's prime."""
    if not fits_symmetric(room.prime, mates):
        raise InvalidMates(mates)


def frame_number(prime, kind, mates_kind):
    """How many frames with mates of the one kind a room of the other kind has [75]."""
    size, rank, sign = kind
    many, ones, _ = mates_kind
    # So much of the rank is wanted [76]: behind this it never falls below 0.
    if ones + 2 * (many - ones) > rank:
        return 0
    total = power(prime, (size - rank) * many)
    plain = plain_by(prime, mates_kind).rows()
    for at in range(ones):
        total = total * worth_number(prime, rank, sign, plain[at][at])
        rank, sign = rank - 1, sign * sign_rest(prime, plain[at][at])
    for at in range(many - ones):
        total = total * (worth_number(prime, rank, sign, 0) - 1) * power(prime, at)
        rank, sign = rank - 2, sign * pairs_sign(prime, 1)
    return total


def next_rows(room, wanted, frame, ready):
    """The rows that go on with the frame, of those with the right worth: the wanted betweens are those of one mate."""
    found = ready
    for row, rest in zip(frame, wanted):
        seen = mixed_row(room.prime, room.size, row, room.rows())
        found = [other for other in found if dot(room.prime, seen, other) == rest]
    return [row for row in found if not still_rests(room, frame + [row])]
