"""Values of every sort of [91], of which some are no values of it, and their written forms."""

from restkeepers.rooms import Room
from tests.listing import some_part, tuples
from tests.reckon import NO_KIND, PRIMES, THING, Numbers, in_steps, room_samples, unit

SORTS = ["room", "row", "table", "part", "kind", "bar"]
NO_SORTS = NO_KIND + [0, 1, [], (), ["room"], ("row",), "Room", "room ", " room", "rooms", "line", "ro", "roomrow",
                      "room row", "\n", "room\n", b"room", {"room": 1}, [["room"]], 10 ** 29]


def lined(head, rows):
    """A written form: the head, then a line for each row."""
    return "".join(" ".join(str(word) for word in line) + "\n" for line in [head] + [["line", *row] for row in rows])


def values_of(sort):
    """Values of the sort with their written forms; those with lists, and the same ones with tuples."""
    return {"room": room_values, "row": row_values, "table": table_values, "part": part_values, "kind": kind_values,
            "bar": bar_values}[sort]()


def room_values():
    for prime in PRIMES:
        for size in range(7):
            for table in room_samples(prime, size):
                yield Room(prime, table), lined(["room", prime], table)


def row_values():
    for prime in PRIMES:
        for size in range(7):
            for row in [Numbers(size + prime).row(prime, size), [0] * size, [prime - 1] * size]:
                text = lined(["row", prime, *row], [])
                yield (prime, row), text
                yield (prime, tuple(row)), text


def table_values():
    for prime in PRIMES:
        for size in range(7):
            for table in [Numbers(size + prime).table(prime, size), [[prime - 1] * size for _ in range(size)]]:
                text = lined(["table", prime], table)
                yield (prime, table), text
                yield (prime, tuples(table)), text


def part_values():
    for prime in PRIMES:
        for size in range(7):
            for many in range(size + 1):
                part = some_part(Numbers(many + 7 * size), prime, size, many)
                text = lined(["part", prime, size], part)
                yield (prime, size, part), text
                yield (prime, size, tuple(map(list, part))), text


def kind_values():
    for size in range(7):
        for rank in range(7):
            for sign in (1, -1):
                yield (size, rank, sign), f"kind {size} {rank} {sign}\n"
                yield (size, rank, sign, (size + rank) % 7), f"kind {size} {rank} {sign} {(size + rank) % 7}\n"


def bar_values():
    for first in range(6):
        for second in range(first, 6):
            yield ("between", first, second), f"bar between {first} {second}\n"
    for many in range(1, 7):
        for word in ("lost", "still"):
            for rests in [Numbers(many).row(12, many - 1) + [12], [1] + [0] * (many - 1), [0] * (many - 1) + [10]]:
                text = lined(["bar", word, *rests], [])
                yield (word, rests), text
                yield (word, tuple(rests)), text


def is_integer(value, least, most):
    return type(value) is int and least <= value <= most


def is_plain_row(prime, size, row):
    return type(row) in (list, tuple) and len(row) == size and all(is_integer(rest, 0, prime - 1) for rest in row)


def is_plain_rows(prime, size, rows):
    return type(rows) in (list, tuple) and all(is_plain_row(prime, size, row) for row in rows)


def plain_sort(sort, value):
    """Whether the value is of the sort, by the words of [91]."""
    if sort == "room":
        return isinstance(value, Room)
    if type(value) is not tuple:
        return False
    if sort == "kind":
        return len(value) in (3, 4) and all(is_integer(one, 0, 6) for one in value[:2] + value[3:]) and \
            type(value[2]) is int and value[2] in (1, -1)
    if sort == "bar":
        return is_plain_bar(value)
    if len(value) != (3 if sort == "part" else 2) or type(value[0]) is not int or value[0] not in PRIMES:
        return False
    prime, last = value[0], value[-1]
    if sort == "part":
        return is_integer(value[1], 0, 6) and is_plain_rows(prime, value[1], last) and in_steps(last)
    if type(last) not in (list, tuple) or len(last) > 6:
        return False
    return is_plain_row(prime, len(last), last) if sort == "row" else is_plain_rows(prime, len(last), last)


def is_plain_bar(value):
    if len(value) == 3 and value[0] == "between":
        return is_integer(value[2], 0, 5) and is_integer(value[1], 0, value[2])
    if len(value) != 2 or type(value[0]) is not str or value[0] not in ("lost", "still"):
        return False
    rests = value[1]
    return type(rests) in (list, tuple) and 1 <= len(rests) <= 6 and is_plain_row(13, len(rests), rests) and any(rests)


WRONG = [True, False, None, -1, 7, 12, 13, 14, 10 ** 29, "1", "", [1], (1,), [], (), [[1]], {0: 1}, THING]


def otherwise(value):
    """Values with one thing otherwise, at any depth; lists for tuples and tuples for lists too."""
    found = []
    if type(value) in (list, tuple):
        made = type(value)
        found.append(list(value) if made is tuple else tuple(value))
        found += [value[1:], value[:-1], value + value[-1:], value[::-1], value + made([0]), made([value])]
        for at, one in enumerate(value):
            found += [value[:at] + made([other]) + value[at + 1:] for other in otherwise(one)]
            found.append(value[:at] + made([one, one]) + value[at + 1:])
    else:
        found += WRONG
        if type(value) is int:
            found += [value + 1, value - 1, -value, bool(value), str(value)]
    return found


def no_values():
    """Values of no sort, or of few."""
    found = NO_KIND + [0, 1, [], (), (3,), [3, []], (3, []), (3, 0, []), (True, []), (1, []), (4, [[1]]), (3, [0] * 7),
                       (3, ((0,) * 7,) * 7), (3, 7, []), (3, -1, []), (3, True, []), (3, 1, [[1], [1]]), (3, 2, [[2, 1]]),
                       (3, 2, [[0, 1], [1, 0]]), (3, 2, [[1, 1], [0, 1]]), (3, 0, [[]]), (3, 1, [[0]]), (3, None, []),
                       (3, "1", [[1]]), (1, 1, 1), (1, 1, True), (True, 1, 1), (1, 1, 0), (1, 1, 2), (7, 1, 1), (1, 7, 1),
                       (1, 1, 1, 7), (1, 1, 1, 1, 1), (1, 1), [1, 1, 1], (6, 6, -1, 6), (1, 1, 1, True), (-1, 0, 1),
                       ("between", 0, 0), ("between", 1, 0), ("between", 5, 6), ("between", 6, 6), ("between", 0, True),
                       ("between", False, 0), ("between", 0), ("between", 0, 0, 0), ["between", 0, 0], ("lost", [0]),
                       ("lost", []), ("lost", [1] * 7), ("lost", [13]), ("lost", [True]), ("lost", [1], [1]), ("lost", 1),
                       ("still", [0] * 6), ("still", [-1]), ("still", None), ("still", "1"), (b"lost", [1]), (None, [1]),
                       (["lost"], [1]), ("gone", [1]), ("between", [1]), ("lost", 0, 0), "lost", (3, [[True]]), (3, [True]),
                       (3, [[0, 0]]), (3, [[0], [0]]), (3, {0: 0}), (3, "01"), (3, [None]), (13, [13]), (13, [12])]
    for prime in PRIMES:
        found += [(prime, unit(6)), (prime, 6, unit(6)), (prime, 6, list(unit(6))[::-1]), (prime, unit(7)), (prime, 7, unit(7)),
                  Room(prime, unit(prime % 4)), [Room(prime, ())], (Room(prime, ()),), (prime, Room(prime, ()))]
    return found
