"""What the tests list in full: undone tables, keepers, parts; and values that are no parts, images or kinds."""

from itertools import combinations, product

from restkeepers.plain import plain_by
from restkeepers.rooms import Room
from tests import reckon
from tests.reckon import (NO_KIND, PRIMES, all_rows, between, in_steps, mixed, no_rows, room_kind, room_samples, spanned,
                          unit)


def tuples(rows):
    return tuple(tuple(row) for row in rows)


def ordered_rows(prime, size, fits, ahead=()):
    """All tuples of as many free rows as the size, each row one that `fits` lets behind those ahead of it."""
    if len(ahead) == size:
        return [ahead]
    made = spanned(prime, size, ahead)
    found = []
    for row in all_rows(prime, size):
        if row not in made and fits(ahead, row):
            found += ordered_rows(prime, size, fits, ahead + (row,))
    return found


def undone_tables(prime, size):
    return ordered_rows(prime, size, lambda ahead, row: True)


def keepers(prime, table):
    """All of them: undone tables whose rows have the betweens of the idle table's rows."""
    def fits(ahead, row):
        kept = table[len(ahead)]
        return all(between(prime, table, old, row) == kept[at] for at, old in enumerate(ahead + (row,)))
    return ordered_rows(prime, len(table), fits)


def parts(prime, size):
    """All lists in steps of rows of this size."""
    found = []
    for many in range(size + 1):
        for firsts in combinations(range(size), many):
            free = [(at, place) for at, first in enumerate(firsts) for place in range(first + 1, size)
                    if place not in firsts]
            for rests in product(range(prime), repeat=len(free)):
                rows = [[1 if place == first else 0 for place in range(size)] for first in firsts]
                for (at, place), rest in zip(free, rests):
                    rows[at][place] = rest
                found.append([tuple(row) for row in rows])
    return found


def is_still(prime, table, row):
    return not any(mixed(prime, len(table), row, table))


def among(prime, table, rows):
    """The betweens of each two of the rows."""
    return tuple(tuple(between(prime, table, x, y) for y in rows) for x in rows)


def logarithm(prime, number):
    """How often the prime is a factor of its power."""
    times = 0
    while prime ** times < number:
        times += 1
    return times


def part_kind(prime, table, part):
    """Size, rank and sign of the own room, and the size of the still part, by listing all that the part stands for."""
    still = [row for row in spanned(prime, len(table), part) if is_still(prime, table, row)]
    return room_kind(prime, among(prime, table, part)) + (logarithm(prime, len(still)),)


def told_part(prime, size, rows):
    """The list in steps of rows that spans the same, looked up among all that the rows span."""
    found = spanned(prime, size, rows)
    firsts = sorted({next(place for place, rest in enumerate(row) if rest) for row in found if any(row)})
    return [row for first in firsts for row in found
            if row[first] == 1 and not any(row[:first]) and not any(row[one] for one in firsts if one != first)]


def some_part(numbers, prime, size, many):
    """A part of this size that looks mixed."""
    firsts = list(range(size))
    while len(firsts) > many:
        firsts.pop(numbers.below(len(firsts)))
    rows = []
    for first in firsts:
        row = [numbers.below(prime) if place > first and place not in firsts else 0 for place in range(size)]
        row[first] = 1
        rows.append(tuple(row))
    return rows


def small_rooms():
    """Primes and tables of rooms so small that their rows and parts are soon listed."""
    found = set()
    for prime, most in [(3, 3), (5, 3), (7, 2), (11, 2), (13, 2)]:
        for size in range(most + 1):
            found |= {(prime, tuples(table)) for table in room_samples(prime, size)}
    return sorted(found)


def plain_part(prime, size, value):
    """Whether the value is a list in steps of rows of this size, by the words of the document."""
    if type(value) not in (list, tuple):
        return False
    for row in value:
        if type(row) not in (list, tuple) or len(row) != size:
            return False
        if not all(type(rest) is int and 0 <= rest < prime for rest in row):
            return False
    return in_steps(value)


def no_parts(prime, size):
    """Values that are no part of a room of this size."""
    units = [list(row) for row in unit(size)]
    nought = [0] * size
    bad = NO_KIND + [0, 1, prime, "part", [0], ["0"], [None], [True], {0: [1]}, [nought], (tuple(nought),)]
    bad += [units + [nought], units[::-1], units + units, units * 7, tuple(units[::-1]), [nought] + units]
    for at in range(size):
        bad += [units[:at] + [row] + units[at + 1:] for row in no_rows(prime, size)[::3]]
        bad += [[units[at]] * 2, [[2 * rest for rest in units[at]]], units[at:] + units[:at], units[at]]
        for place in range(size):
            for wrong in [True, False, None, "0", "1", -1, 1, 2, prime, prime + 1, prime + 2, [0], 10 ** 29]:
                row = list(units[at])
                row[place] = wrong
                bad += [[row], (tuple(row),), units[:at] + [row] + units[at + 1:]]
    bad += [[row] for row in no_rows(prime, size)]
    bad += [list(unit(other)) for other in range(1, 8) if other != size]
    return [value for value in bad if not plain_part(prime, size, value)]


def no_images(prime, size, many):
    """Values that are no list of this many rows of this size."""
    good = [0] * size
    bad = NO_KIND + [0, 1, prime, "images", [good] * (many + 1), (tuple(good),) * (many + 1), [good] * 41, {0: good}]
    bad += [[good] * less for less in range(many)]
    if many:
        for row in no_rows(prime, size):
            bad += [[good] * (many - 1) + [row], tuple([row] + [good] * (many - 1))]
    return bad


def all_rooms():
    """Rooms of all primes and sizes, of all ranks."""
    return [Room(prime, table) for prime in PRIMES for size in range(7) for table in room_samples(prime, size)]


def plain_rooms(prime, size):
    """A room of each kind."""
    return [plain_by(prime, (size, rank, sign)) for rank in range(size + 1) for sign in (1, -1) if rank or sign == 1]


def pair_total(room):
    """The pair count, by the words of [62]."""
    _, rank, sign = room_kind(room.prime, room.rows())
    minus = reckon.sign(room.prime, room.prime - 1)
    if rank % 2:
        return (rank - 1) // 2
    return rank // 2 if sign == minus ** (rank // 2) else rank // 2 - 1
