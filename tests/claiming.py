"""Claims of all words, which of them are true and what their papers are, by the words of [93]."""

from restkeepers.parts import part_of
from restkeepers.rooms import Room
from tests import listing, mapping, reckon
from tests.listing import part_kind, some_part, told_part, tuples
from tests.reckon import NO_KIND, PRIMES, THING, Numbers, between, led_room, mixed, room_kind, room_samples, spanned, unit

LINES = [("alike", "unlike"), ("keeps", "bends"), ("goes", "barred"), ("nought", "worthy"), ("led", "apart")]
OTHER = {first: second for first, second in LINES} | {second: first for first, second in LINES}


def is_plain_rows(prime, size, value):
    return type(value) in (list, tuple) and all(
        type(row) in (list, tuple) and len(row) == size and
        all(type(rest) is int and 0 <= rest < prime for rest in row) for row in value)


def is_plain_table(prime, size, value):
    return is_plain_rows(prime, size, value) and len(value) == size


def plain_claim(value):
    """Whether the value is a claim."""
    if type(value) is not tuple or not value or type(value[0]) is not str or value[0] not in OTHER:
        return False
    line = next(line for line in LINES if value[0] in line)
    if len(value) != (4 if line[0] in ("goes", "led") else 3) or not isinstance(value[1], Room):
        return False
    room, other = value[1], value[2]
    if line[0] == "alike":
        return isinstance(other, Room) and (room.prime, room.size) == (other.prime, other.size)
    if line[0] == "keeps":
        return is_plain_table(room.prime, room.size, other)
    if not listing.plain_part(room.prime, room.size, other):
        return False
    if line[0] == "led":
        return listing.plain_part(room.prime, room.size, value[3])
    return line[0] == "nought" or is_plain_rows(room.prime, room.size, value[3]) and len(value[3]) == len(other)


def keeps(room, table):
    """Whether the table keeps the between of each two rows of the idle table, so all worths."""
    return led_room(room.prime, room.rows(), table) == room.rows()


def goes(room, part, images):
    """Whether the map has the three marks of [51]: looked up among all sums of multiples."""
    prime, table = room.prime, room.rows()
    if listing.among(prime, table, part) != listing.among(prime, table, images):
        return False
    for rests in reckon.all_rows(prime, len(part)):
        own, beside = mixed(prime, len(table), rests, part), mixed(prime, len(table), rests, images)
        if any(rests) and not any(beside) or listing.is_still(prime, table, own) != listing.is_still(prime, table, beside):
            return False
    return True


def plain_truth(claim):
    """Whether a claim about a small room is true, by the words of [93]."""
    word, room, *others = claim
    line = next(line for line in LINES if word in line)
    prime, table = room.prime, room.rows()
    if line[0] == "alike":
        first = room_kind(prime, table) == room_kind(prime, others[0].rows())
    elif line[0] == "keeps":
        first = keeps(room, others[0])
    elif line[0] == "goes":
        first = goes(room, *others)
    elif line[0] == "nought":
        first = not any(between(prime, table, row, row) for row in spanned(prime, len(table), others[0]))
    else:
        first = part_kind(prime, table, others[0]) == part_kind(prime, table, others[1])
    return first == (word == line[0])


def is_plain_keeper(room, value):
    return is_plain_table(room.prime, room.size, value) and reckon.determinant(room.prime, value) != 0 and keeps(room, value)


def are_positions(value, many):
    return type(value) is tuple and len(value) == 2 and all(type(at) is int and 0 <= at < many for at in value)


def are_kinds(value, kinds):
    """Whether the value is these two kinds, all of them INTEGERS."""
    return reckon.plain_kind(value) and value == tuple(kinds) and kinds[0] != kinds[1]


def is_bar_form(room, part, value):
    """Whether the value is a tuple of the form of a bar of the part's maps."""
    if type(value) is not tuple or not value or type(value[0]) is not str:
        return False
    if value[0] == "between":
        return are_positions(value[1:], len(part))
    return len(value) == 2 and value[0] in ("lost", "still") and type(value[1]) in (list, tuple) and \
        is_plain_rows(room.prime, len(part), [value[1]])


def plain_paper(claim, value):
    """Whether any value is a paper of a claim about a small room, by the words of [93] and [94]."""
    word, room, *others = claim
    prime, table = room.prime, room.rows()
    if word == "alike":
        return is_plain_table(prime, room.size, value) and reckon.determinant(prime, value) != 0 and \
            led_room(prime, others[0].rows(), value) == table
    if word == "unlike":
        return are_kinds(value, [room_kind(prime, table), room_kind(prime, others[0].rows())])
    if word == "bends":
        if not are_positions(value, room.size) or value[0] > value[1]:
            return False
        return between(prime, table, others[0][value[0]], others[0][value[1]]) != table[value[0]][value[1]]
    if word == "goes":
        return is_plain_keeper(room, value) and mapping.led(prime, others[0], value) == [tuple(row) for row in others[1]]
    if word == "barred":
        return is_bar_form(room, others[0], value) and mapping.is_plain_bar(prime, table, *others, value)
    if word == "worthy":
        part = others[0]
        return are_positions(value, len(part)) and between(prime, table, part[value[0]], part[value[1]]) != 0
    if word == "led":
        return is_plain_keeper(room, value) and \
            told_part(prime, room.size, mapping.led(prime, others[0], value)) == [tuple(row) for row in others[1]]
    if word == "apart":
        return are_kinds(value, [part_kind(prime, table, part) for part in others])
    return False


def claims_about(room, seed):
    """Claims of all words about the room: true ones and false ones, with lists and with tuples."""
    prime, size, table = room.prime, room.size, room.rows()
    numbers, rooms = Numbers(seed), room_samples(room.prime, room.size)
    keeper = mapping.mixed_keeper(prime, table, seed)
    by = numbers.undone(prime, size)
    found = [("alike", room, Room(prime, led_room(prime, table, by))), ("alike", room, room),
             ("alike", room, Room(prime, rooms[seed % len(rooms)])), ("alike", room, Room(prime, rooms[-1])),
             ("keeps", room, keeper), ("keeps", room, [list(row) for row in by]), ("keeps", room, unit(size)),
             ("keeps", room, [[0] * size for _ in range(size)])]
    for many in range(size + 1):
        part = some_part(numbers, prime, size, many)
        images = mapping.led(prime, part, keeper)
        found += [("goes", room, part, images), ("goes", room, tuple(map(list, part)), tuples(images)),
                  ("nought", room, part), ("nought", room, tuples(part)),
                  ("led", room, part, part_of(room, images)), ("led", room, tuples(part), [list(row) for row in part]),
                  ("led", room, part, some_part(numbers, prime, size, many)),
                  ("led", room, part, some_part(numbers, prime, size, numbers.below(size + 1)))]
        others = mapping.other_images(prime, table, images, seed + many) if many else []
        found += [("goes", room, part, list(map(list, other))) for other in others[seed % 3::3]]
    still = room.still()
    found += [("nought", room, still), ("led", room, still, still)]
    return found + [(OTHER[claim[0]],) + claim[1:] for claim in found]


def no_claims():
    """Values that are no claim."""
    room, other = Room(3, unit(2)), Room(5, unit(2))
    found = NO_KIND + [0, 1, (), [], ("alike",), ("alike", room), ("alike", room, room, room), ["alike", room, room],
                       ("alike", room, other), ("alike", room, Room(3, unit(3))), ("alike", room, unit(2)), ("alike", 3, 3),
                       ("alike", room, None), ("alike", room, (room,)), ("like", room, room), ("", room, room),
                       ("Alike", room, room), (b"alike", room, room), (("alike", "unlike"), room, room), (None, room, room),
                       (["alike"], room, room), (0, room, room), (True, room, room), (room, "alike", room), (room, room),
                       ("keeps", room, ((1,),)), ("keeps", room, unit(3)), ("keeps", room, [[1, 0], [0, 3]]),
                       ("keeps", room, [[1, 0], [0, True]]), ("keeps", room), ("keeps", room, room), ("keeps", unit(2), room),
                       ("keeps", room, unit(2), unit(2)), ("bends", None, unit(2)), ("bends", room, "10"),
                       ("goes", room, [(1, 0)]), ("goes", room, [(1, 0)], [(1, 0), (0, 1)]), ("goes", room, [], [(0, 0)]),
                       ("goes", room, [(2, 0)], [(1, 0)]), ("goes", room, [(1, 0)], [(1, 0, 0)]),
                       ("goes", room, [(1, 0)], [(1, False)]), ("goes", room, [(1, 0)], (1, 0)), ("barred", room, None, None),
                       ("barred", room, [], [], []), ("goes", [(1, 0)], room, [(1, 0)]), ("goes", room, [(1, 0)], {0: (1, 0)}),
                       ("nought", room, [(0, 1), (1, 0)]), ("nought", room, [(0, 0)]), ("nought", room, [(1, 0, 0)]),
                       ("nought", room), ("nought", room, [], []), ("worthy", room, [(True, 0)]), ("worthy", room, None),
                       ("worthy", room, (1, 0)), ("nought", None, []), ("led", room, [], None), ("led", room, [(1, 0)]),
                       ("led", room, [(1, 0)], [(3, 0)]), ("led", room, [(1, 1), (0, 1)], []), ("apart", room, [], [], []),
                       ("apart", room, unit(2), unit(3)), ("led", room, [], [(2, 0)]), ("gone", room, []), "alike",
                       ("row", room, []), [("alike", room, room)], (("alike", room, room),), ("alike", THING, THING)]
    return found


def paper_edits(value):
    """Values near a paper: one thing otherwise at any depth."""
    found = [None, True, False, 0, (), [], value]
    if type(value) in (list, tuple):
        made = type(value)
        found += [list(value), tuple(value), value[1:], value[:-1], value[::-1], value + value[:1], made([value])]
        for at, one in enumerate(value):
            found += [value[:at] + made([other]) + value[at + 1:] for other in paper_edits(one)]
    elif type(value) is int:
        found += [value + 1, value - 1, bool(value), -value, str(value), [value], 10 ** 29]
    elif type(value) is str:
        found += ["between", "lost", "still", "", value + " ", value.encode(), [value]]
    return found


def small_claim_rooms():
    """Rooms of all primes about which claims are soon judged by listing."""
    found = []
    for prime, most in [(3, 4), (5, 3), (7, 2), (11, 2), (13, 2)]:
        for size in range(most + 1):
            tables = list(dict.fromkeys(map(tuples, room_samples(prime, size))))
            found += [Room(prime, table) for table in (tables[:2] + tables[2::3] if size > 1 else tables[:3])]
    return found


def great_claim_rooms():
    return [Room(prime, table) for prime in PRIMES for size in (4, 5, 6) for table in room_samples(prime, size)[size % 3::9]]
