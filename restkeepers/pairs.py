"""Pair rows of a room, and the sorts of its greatest nought parts."""

from restkeepers.checks import fits_rows
from restkeepers.errors import NoSorts, NotGreatest
from restkeepers.models import PAIR_TABLE, most_pairs, pair_model
from restkeepers.noughts import is_greatest
from restkeepers.parts import meeting, need_part
from restkeepers.rests import sign_rest
from restkeepers.rooms import need_room
from restkeepers.sums import betweens_table, joined_tables


def pair_count(room):
    """The pair count of the room."""
    need_room(room)
    return most_pairs(room)


def pair_rows(room):
    """Pair rows of the room: its pairs, what is left, and its still rows."""
    need_room(room)
    rows, many = pair_model(room), most_pairs(room)
    pairs = [(rows[2 * at], rows[2 * at + 1]) for at in range(many)]
    return (pairs, list(rows[2 * many:room.rank]), room.still())


def is_pair_rows(room, value):
    """Whether any value is pair rows of the room."""
    need_room(room)
    if not isinstance(value, tuple) or len(value) != 3:
        return False
    pairs, rest, still = value
    if not fits_pairs(room, pairs) or not fits_rows(room.prime, room.size, rest):
        return False
    if not fits_rows(room.prime, room.size, still) or [tuple(row) for row in still] != room.still():
        return False
    if 2 * len(pairs) + len(rest) != room.rank:
        return False
    return paired(room, pairs, rest)


def same_sort(room, part, other):
    """Whether two greatest nought parts are of one sort."""
    need_room(room)
    need_part(room, part)
    need_part(room, other)
    if not is_greatest(room, part) or not is_greatest(room, other):
        raise NotGreatest()
    if room.rank == 0 or room.rank != 2 * most_pairs(room):
        raise NoSorts()
    return (len(part) - len(meeting(room, part, other))) % 2 == 0


def fits_pairs(room, value):
    """Whether the value is a list of tuples of two rows of the room."""
    if not isinstance(value, (list, tuple)):
        return False
    for pair in value:
        if not isinstance(pair, tuple) or not fits_rows(room.prime, room.size, pair) or len(pair) != 2:
            return False
    return True


def paired(room, pairs, rest):
    """Whether these rows, as many as the rank, have the betweens of pair rows."""
    rows = [row for pair in pairs for row in pair] + list(rest)
    led = betweens_table(room.prime, room.rows(), rows)
    wanted = ()
    for _ in pairs:
        wanted = joined_tables(wanted, PAIR_TABLE)
    worths = [led[at][at] for at in range(2 * len(pairs), len(rows))]
    for worth in worths:
        wanted = joined_tables(wanted, ((worth,),))
    return led == wanted and without_noughts(room.prime, worths)


def without_noughts(prime, worths):
    """Whether no sum of multiples of rows at right angles with these worths, not all by 0, has the worth 0."""
    if len(worths) == 2:
        return sign_rest(prime, -worths[0] * worths[1] % prime) == -1
    # Of three rows some sum always has it [63].
    return len(worths) < 2 and 0 not in worths
