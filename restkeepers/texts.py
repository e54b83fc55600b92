"""Written forms: the sorts of values that have one, and the lines of each."""

from restkeepers.checks import (
    MOST_SIZE,
    fits_any_row,
    fits_any_table,
    fits_count,
    fits_integer,
    fits_prime,
    fits_row,
)
from restkeepers.errors import InvalidSort, InvalidValue
from restkeepers.parts import fits_steps
from restkeepers.rooms import Room

SORTS = ("room", "row", "table", "part", "kind", "bar")
# Rests of bars are written without a prime: they are below the greatest one.
MOST_REST = 12


def sorts():
    """The list of the words of the sorts, in their sequence."""
    return list(SORTS)


def is_of_sort(sort, value):
    """Whether any value is one of this sort."""
    need_sort(sort)
    match sort:
        case "room":
            return isinstance(value, Room)
        case "row":
            return fits_headed(value, 2) and fits_any_row(value[0], value[1])
        case "table":
            return fits_headed(value, 2) and fits_any_table(value[0], value[1])
        case "part":
            return fits_part(value)
        case "kind":
            return fits_kind_form(value)
        case _:
            return fits_bar_form(value)


def written(sort, value):
    """The written form of a value of this sort."""
    if not is_of_sort(sort, value):
        raise InvalidValue(value)
    match sort:
        case "room":
            return headed(["room", value.prime], value.rows())
        case "row":
            return headed(["row", value[0], *value[1]], [])
        case "table":
            return headed(["table", value[0]], value[1])
        case "part":
            return headed(["part", value[0], value[1]], value[2])
        case "kind":
            return headed(["kind", *value], [])
        case _:
            numbers = value[1:] if value[0] == "between" else value[1]
            return headed(["bar", value[0], *numbers], [])


def need_sort(sort):
    """Raise InvalidSort unless the sort is the word of one."""
    if not isinstance(sort, str) or sort not in SORTS:
        raise InvalidSort(sort)


def fits_headed(value, many):
    """Whether the value is a tuple of so many things, a prime ahead."""
    return isinstance(value, tuple) and len(value) == many and fits_prime(value[0])


def fits_part(value):
    """Whether the value is a tuple of a prime, a size, and a list in steps of rows of this size."""
    if not fits_headed(value, 3) or not fits_count(value[1], MOST_SIZE + 1):
        return False
    return fits_steps(value[0], value[1], value[2])


def fits_kind_form(value):
    """Whether the value is a tuple of counts to 6, the third one a sign; three of them, or four."""
    if not isinstance(value, tuple) or len(value) not in (3, 4):
        return False
    if not fits_integer(value[2]) or value[2] not in (1, -1):
        return False
    return all([fits_count(number, MOST_SIZE + 1) for number in value[:2] + value[3:]])


def fits_bar_form(value):
    """Whether the value is a tuple that is a bar of some map."""
    if not isinstance(value, tuple) or len(value) not in (2, 3) or not isinstance(value[0], str):
        return False
    if value[0] == "between":
        return len(value) == 3 and fits_count(value[2], MOST_SIZE) and fits_count(value[1], value[2] + 1)
    if value[0] not in ("lost", "still") or len(value) != 2 or not isinstance(value[1], (list, tuple)):
        return False
    many = len(value[1])
    return 1 <= many <= MOST_SIZE and fits_row(MOST_REST + 1, many, value[1]) and any(value[1])


def headed(head, rows):
    """The lines of the words of the head, and of each row behind its word."""
    lines = [head] + [["line", *row] for row in rows]
    return "".join([" ".join([str(word) for word in line]) + "\n" for line in lines])
