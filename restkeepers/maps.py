"""Maps of a part: images by tables, whether a map goes on, and what bars it."""

from restkeepers.checks import fits_count, fits_row, fits_rows, need_table
from restkeepers.errors import InvalidImages
from restkeepers.keeping import is_still
from restkeepers.parts import need_part, still_rests
from restkeepers.rooms import need_room
from restkeepers.sums import betweens_table, filling_rows, mixed_row, mixed_rows, nought_rests


def images_by(room, part, table):
    """The rows to which the table leads the part's rows."""
    need_room(room)
    need_part(room, part)
    need_table(room.prime, room.size, table)
    return mixed_rows(room.prime, room.size, part, table)


def goes_on(room, part, images):
    """Whether some keeper of the room leads each row of the part to its image."""
    return bar(room, part, images) is None


def bar(room, part, images):
    """A bar of the map; None if it goes on."""
    need_map(room, part, images)
    unlike = unlike_betweens(room, part, images)
    if unlike:
        return ("between",) + unlike[0]
    lost = nought_rests(room.prime, room.size, images)
    if lost:
        return ("lost", list(lost[0]))
    still = half_still(room, part, images)
    if still:
        return ("still", list(still[0]))
    return None


def is_bar(room, part, images, value):
    """Whether any value is a bar of the map."""
    need_map(room, part, images)
    if not isinstance(value, tuple):
        return False
    if len(value) == 3 and value[0] == "between":
        return bars_between(room, part, images, value[1], value[2])
    if len(value) != 2 or not fits_row(room.prime, len(part), value[1]) or not any(value[1]):
        return False
    word, rests = value
    led = mixed_row(room.prime, room.size, rests, images)
    if word == "lost":
        return not any(led)
    own = mixed_row(room.prime, room.size, rests, part)
    return word == "still" and is_still(room, own) != is_still(room, led)


def need_map(room, part, images):
    """Raise the error of the first of these that is none."""
    need_room(room)
    need_part(room, part)
    if not fits_rows(room.prime, room.size, images) or len(images) != len(part):
        raise InvalidImages(images)


def unlike_betweens(room, part, images):
    """All tuples of two positions, the first at most the second, whose images have another between."""
    kept = betweens_table(room.prime, room.rows(), part)
    led = betweens_table(room.prime, room.rows(), images)
    return [(i, j) for i in range(len(part)) for j in range(i, len(part)) if kept[i][j] != led[i][j]]


def bars_between(room, part, images, first, second):
    """Whether these two of any values are positions whose images have another between."""
    if not fits_count(second, len(part)) or not fits_count(first, second + 1):
        return False
    return room.between(part[first], part[second]) != room.between(images[first], images[second])


def half_still(room, part, images):
    """Some rests by which just one of two sums is still, that of the part's rows, that of the images."""
    own, led = still_rests(room, part), still_rests(room, images)
    # If each of the one told steps is a sum of the others, and back, no rests are barred.
    return filling_rows(room.prime, len(part), own, led) + filling_rows(room.prime, len(part), led, own)
