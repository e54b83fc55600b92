"""The things that a desk keeps: rooms, tables as tuples, rows as lists; and the deeds that make or change one."""

from restkeepers.beside import beside, scaled, taken_off
from restkeepers.checks import fits_any_row, need_any_table, need_prime, need_rest
from restkeepers.errors import InvalidPlace, InvalidRow, InvalidRows, NoneThere
from restkeepers.going import keeper_on, part_lead
from restkeepers.keeping import right_angles
from restkeepers.kinds import part_by
from restkeepers.likeness import lead
from restkeepers.maps import images_by
from restkeepers.noughts import greatest_nought
from restkeepers.parts import meeting, own_room, part_of, sum_of
from restkeepers.plain import plain_by, plain_room
from restkeepers.rooms import Room
from restkeepers.tables import idle, times, undone

MAKE_ROOMS = ("room", "plain", "led", "own", "plainof", "beside", "scaled", "taken")
MAKE_TABLES = ("table", "idle", "times", "undone", "lead", "keeper", "partlead")


def kind_of_thing(thing):
    """The word of the thing's kind."""
    if isinstance(thing, Room):
        return "room"
    return "table" if isinstance(thing, tuple) else "rows"


def fresh(thing):
    """The thing, in a new list if it is one."""
    return list(thing) if isinstance(thing, list) else thing


def made(word, told):
    """The thing that the deed with this word makes of what is told behind its new name."""
    if word in MAKE_ROOMS:
        return made_room(word, told)
    if word in MAKE_TABLES:
        return made_table(word, told)
    return made_rows(word, told)


def made_room(word, told):
    """The room that the deed makes."""
    match word:
        case "room":
            return Room(*told)
        case "plain":
            prime, *kind = told
            return plain_by(prime, tuple(kind))
        case "led":
            room, table = told
            return room.led(table)
        case "own":
            return own_room(*told)
        case "plainof":
            return plain_room(*told)
        case "beside":
            return beside(*told)
        case "scaled":
            return scaled(*told)
        case _:
            return found(taken_off(*told))


def made_table(word, told):
    """The table that the deed makes."""
    match word:
        case "table":
            return told_table(*told)
        case "idle":
            return idle(*told)
        case "times":
            return times(*told)
        case "undone":
            return undone(*told)
        case "lead":
            return found(lead(*told))
        case "keeper":
            return found(keeper_on(*told))
        case _:
            return found(part_lead(*told))


def made_rows(word, told):
    """The list of rows that the deed makes."""
    match word:
        case "rows":
            return told_rows(*told)
        case "part":
            return part_of(*told)
        case "angles":
            return right_angles(*told)
        case "still":
            return told[0].still()
        case "sumof":
            return sum_of(*told)
        case "meeting":
            return meeting(*told)
        case "images":
            return images_by(*told)
        case "partby":
            room, *kind = told
            return part_by(room, tuple(kind))
        case _:
            return greatest_nought(*told)


def found(thing):
    """The thing; NoneThere is raised if there is none."""
    if thing is None:
        raise NoneThere()
    return thing


def told_table(prime, rows):
    """The table of the rows."""
    need_prime(prime)
    need_any_table(prime, rows)
    return tuple([tuple(row) for row in rows])


def told_rows(prime, rows):
    """The list of the rows, alike long."""
    need_prime(prime)
    if not all([fits_any_row(prime, row) and len(row) == len(rows[0]) for row in rows]):
        raise InvalidRows(rows)
    return [tuple(row) for row in rows]


def changed_room(room, at, place, rest):
    """The room with the rest at the row and the place, and the other way about."""
    for number in (at, place):
        if number >= room.size:
            raise InvalidPlace(number)
    need_rest(room.prime, rest)
    rows = [list(row) for row in room.rows()]
    rows[at][place] = rest
    rows[place][at] = rest
    return Room(room.prime, rows)


def changed_rows(rows, at, row):
    """The list with the row at the position."""
    if at >= len(rows):
        raise InvalidPlace(at)
    # Lists are kept without a prime: so any rests may stand there.
    if len(row) != len(rows[at]):
        raise InvalidRow(row)
    return rows[:at] + [tuple(row)] + rows[at + 1:]
