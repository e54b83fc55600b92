"""Keepers and parts counted, parts of a kind listed, keepers that hold or fix a part."""

import unittest

from restkeepers.errors import InvalidKind, InvalidPart, InvalidRoom, TooMany
from restkeepers.kinds import kinds, part_kind
from restkeepers.partcounts import fixing_count, holding_count, keeper_count, part_count, parts_with
from restkeepers.rooms import Room
from tests import listing, reckon
from tests.cases import Case
from tests.listing import keepers, no_parts, parts, plain_rooms, small_rooms, some_part, told_part, tuples
from tests.mapping import led
from tests.reckon import NO_KIND, PRIMES, Numbers, led_room, no_rooms, room_kind, room_samples, unit

SIZES = range(7)
NO_FOUR = NO_KIND + [0, 1, (), [], (1,), (1, 1, 1), (1, 1, 1, 0, 0), [1, 1, 1, 0], [0, 0, 1, 0], (1, 1, 1, False),
                     (True, 1, 1, 0), (1, True, 1, 0), (1, 1, True, 0), (0, 0, 1, None), ("1", 1, 1, 0), ((), (), (), ()),
                     ((1, 1, 1, 0),), "1110", (0, 0, [1], 0), (None,) * 4, [[0, 0, 1, 0]]]
NO_KINDS_THERE = [(-1, 0, 1, 0), (0, -1, 1, 0), (0, 0, 0, 0), (0, 0, -1, 0), (0, 0, 1, -1), (0, 0, 2, 0), (1, 1, 1, 1),
                  (7, 0, 1, 0), (7, 7, 1, 0), (10 ** 29, 10 ** 29, 1, 0), (-10 ** 29, 0, 1, 0), (1, 2, 1, 0),
                  (1, 0, 1, 10 ** 29), (6, 6, 10 ** 29, 0), (1, 1, -3, 0), (40, 1, 1, 40)]


def powers(prime, times):
    return prime ** times


def undone_total(prime, size):
    """How many undone tables there are: each row is no sum of multiples of those ahead."""
    total = 1
    for ahead in range(size):
        total *= prime ** size - prime ** ahead
    return total


def keeper_total(prime, kind):
    """How many keepers there are, by [81]."""
    size, rank, sign = kind
    turn, half = reckon.sign(prime, prime - 1), rank // 2
    whole = 1
    if rank and rank % 2 == 0:
        whole = 2 * prime ** (half * (half - 1)) * (prime ** half - sign * turn ** half)
        for at in range(1, half):
            whole *= prime ** (2 * at) - 1
    if rank % 2:
        whole = 2 * prime ** (half * half)
        for at in range(1, half + 1):
            whole *= prime ** (2 * at) - 1
    return whole * undone_total(prime, size - rank) * prime ** ((size - rank) * rank)


def within_total(prime, kind):
    """The undone tables that lead a part of the kind to itself as keepers do, by [83]."""
    size, rank, sign, still = kind
    others = size - still
    return undone_total(prime, still) * keeper_total(prime, (others, rank, sign)) * prime ** (still * others)


def all_part_total(prime, size):
    """How many parts of all kinds there are: of each number of rows, the free ones over those that span the same."""
    total = 0
    for many in range(size + 1):
        free, same = 1, 1
        for ahead in range(many):
            free *= prime ** size - prime ** ahead
            same *= prime ** many - prime ** ahead
        total += free // same
    return total


def by_kind(prime, table):
    """The parts of each kind, listed."""
    found = {}
    for part in parts(prime, len(table)):
        found.setdefault(listing.part_kind(prime, table, part), []).append(part)
    return {kind: sorted(found[kind]) for kind in found}


def great_rooms(prime, size):
    """A room of each kind, led by tables that look mixed."""
    return [Room(prime, led_room(prime, room.rows(), Numbers(seed).undone(prime, size)))
            for seed, room in enumerate(plain_rooms(prime, size))]


class Keepers(Case):

    def test_small_rooms(self):
        for prime, table in small_rooms():
            if prime ** len(table) <= 49 or prime == 5 and len(table) == 2:
                self.same(keeper_count(Room(prime, table)), len(keepers(prime, table)))

    def test_all_kinds_of_rooms(self):
        for prime in PRIMES:
            for size in SIZES:
                for room in plain_rooms(prime, size):
                    wanted = keeper_total(prime, room_kind(prime, room.rows()))
                    self.same(self.told(keeper_count, room=room), wanted)
                    other = Room(prime, led_room(prime, room.rows(), Numbers(size).undone(prime, size)))
                    self.same(keeper_count(room=other), wanted)

    def test_rooms_of_all_sorts(self):
        for prime in PRIMES:
            for size in SIZES:
                for table in room_samples(prime, size):
                    self.same(keeper_count(Room(prime, table)), keeper_total(prime, room_kind(prime, table)))

    def test_some_numbers(self):
        for prime, table, wanted in [(3, unit(2), 8), (3, ((1, 0), (0, 2)), 4), (3, unit(3), 48), (5, (), 1), (7, ((0,),), 6),
                                     (7, ((3,),), 2), (3, ((1, 0), (0, 0)), 12), (13, ((0,) * 2,) * 2, 168 * 156),
                                     (5, unit(2), 8), (5, ((1, 0), (0, 2)), 12), (3, unit(4), 1152)]:
            self.same(keeper_count(Room(prime, table)), wanted)


class Parts(Case):

    def test_small_rooms(self):
        for prime, table in small_rooms():
            room, wanted = Room(prime, table), by_kind(prime, table)
            self.assertEqual(sorted(wanted), kinds(room))
            for kind in wanted:
                self.same(self.told(part_count, room=room, kind=kind), len(wanted[kind]))
                self.same(self.told(parts_with, room=room, kind=kind), wanted[kind])

    def test_rooms_of_four_rows(self):
        for prime, size in [(3, 4)]:
            for table in room_samples(prime, size):
                room, wanted = Room(prime, table), by_kind(prime, table)
                for kind in wanted:
                    self.same(part_count(room, kind), len(wanted[kind]))
                    self.same(parts_with(room, kind), wanted[kind])

    def test_the_greatest_that_can_be_listed(self):
        for prime, size in [(3, 5), (7, 3)]:
            for table in room_samples(prime, size)[size - 1:size + 1]:
                room, listed = Room(prime, table), parts(prime, size)
                of_kind = {}
                for part in listed:
                    of_kind.setdefault(part_kind(room, part), []).append(part)
                for kind in of_kind:
                    self.same(part_count(room, kind), len(of_kind[kind]))
                for kind in list(of_kind)[::5]:
                    self.same(parts_with(room, kind), sorted(of_kind[kind]))

    def test_kinds_that_no_part_has(self):
        for prime in PRIMES:
            for size in SIZES:
                for room in plain_rooms(prime, size)[::2]:
                    there = kinds(room)
                    others = NO_KINDS_THERE + [(k, r, e, t) for k in range(-1, 8) for r in range(-1, 4) for e in (1, -1, 0)
                                               for t in range(-1, 3)]
                    for kind in others[::1 if size < 3 else 7]:
                        if kind not in there:
                            self.same(part_count(room, kind), 0)
                            if prime ** size <= 125:
                                self.same(parts_with(room, kind), [])

    def test_all_kinds_together_are_all_parts(self):
        for prime in PRIMES:
            for size in SIZES:
                for room in great_rooms(prime, size):
                    total = 0
                    for kind in kinds(room):
                        many = part_count(room, kind)
                        self.assertGreater(many, 0)
                        total += many
                    self.same(total, all_part_total(prime, size))

    def test_what_is_returned(self):
        room = Room(3, ((1, 0), (0, 0)))
        self.same(parts_with(room, (1, 1, 1, 0)), [[(1, 0)], [(1, 1)], [(1, 2)]])
        self.same(parts_with(room, (1, 0, 1, 1)), [[(0, 1)]])
        self.same(parts_with(room, (0, 0, 1, 0)), [[]])
        self.same(parts_with(room, (2, 1, 1, 1)), [[(1, 0), (0, 1)]])
        self.same(parts_with(Room(13, ()), (0, 0, 1, 0)), [[]])
        for part in parts_with(room, (1, 1, 1, 0)):
            part.append("more")
        parts_with(room, (1, 1, 1, 0)).clear()
        self.same(parts_with(room, (1, 1, 1, 0)), [[(1, 0)], [(1, 1)], [(1, 2)]])
        three = Room(3, unit(3))
        self.same([part_count(three, kind) for kind in [(1, 0, 1, 0), (1, 1, 1, 0), (1, 1, -1, 0), (2, 0, 1, 0)]], [4, 3, 6, 0])

    def test_too_many_rows_whatever_the_kind(self):
        for prime in PRIMES:
            for size in SIZES:
                for room in [Room(prime, unit(size)), Room(prime, ((0,) * size,) * size)]:
                    for kind in [(0, 0, 1, 0), (1, 1, 1, 0), (size, size, 1, 0), (9, 9, 9, 9), (-1, 0, 0, 10 ** 29)]:
                        if prime ** size <= 400:
                            self.assertIs(type(parts_with(room, kind)), list)
                        else:
                            got = self.raised(TooMany, parts_with, room, kind)
                            self.assertEqual((got.what, got.limit), ("rows", 400))
                            self.raised(TooMany, parts_with, kind=kind, room=room)


class HeldAndFixed(Case):

    def by_listing(self, room, part, listed):
        prime, size = room.prime, room.size
        rows = [tuple(row) for row in part]
        fixed = [keeper for keeper in listed if led(prime, rows, keeper) == rows]
        held = [keeper for keeper in listed if told_part(prime, size, led(prime, rows, keeper)) == rows]
        return len(held), len(fixed)

    def test_small_rooms(self):
        for seed, (prime, table) in enumerate(small_rooms()):
            if prime ** len(table) > 49 or prime == 3 and len(table) == 3 and seed % 3:
                continue
            room, listed = Room(prime, table), keepers(prime, table)
            if len(listed) > 3000:
                continue
            chosen = parts(prime, len(table))
            for part in chosen if len(listed) < 100 else chosen[::4] + chosen[-1:]:
                held, fixed = self.by_listing(room, part, listed)
                self.same(self.told(holding_count, room=room, part=part), held)
                self.same(self.told(fixing_count, room=room, part=part), fixed)

    def test_great_rooms(self):
        for prime in PRIMES:
            for size in SIZES:
                for seed, room in enumerate(great_rooms(prime, size)):
                    numbers = Numbers(seed + 17 * size)
                    for many in range(size + 1):
                        if (many + seed + prime) % 3 and size > 3:
                            continue
                        part = some_part(numbers, prime, size, many)
                        kind = part_kind(room, part)
                        held, fixed = holding_count(room, part), fixing_count(room, part)
                        self.assertTrue(type(held) is int and type(fixed) is int)
                        self.assertEqual(held * part_count(room, kind), keeper_total(prime, room_kind(prime, room.rows())))
                        self.assertEqual(fixed * within_total(prime, kind), held)
                        self.same(holding_count(part=tuples(part), room=room), held)
                        self.same(fixing_count(part=tuples(part), room=room), fixed)

    def test_edges(self):
        for prime in PRIMES:
            for size in SIZES:
                for room in great_rooms(prime, size):
                    total = keeper_total(prime, room_kind(prime, room.rows()))
                    self.same([holding_count(room, []), fixing_count(room, ())], [total, total])
                    self.same([holding_count(room, unit(size)), fixing_count(room, list(unit(size)))], [total, 1])
                    # Still rows are led to still rows by each keeper.
                    still = room.still()
                    self.same(holding_count(room, still), total)
                    self.same(fixing_count(room, still), total // undone_total(prime, len(still)))

    def test_rows_that_are_still_in_the_part_alone(self):
        for prime in PRIMES:
            pair = Room(prime, ((0, 1), (1, 0)))
            self.same([holding_count(pair, [(1, 0)]), fixing_count(pair, [(1, 0)])], [prime - 1, 1])
            wide = Room(prime, ((0, 1, 0), (1, 0, 0), (0, 0, 0)))
            # (1, 0, 0) goes to a multiple of it or its partner, with any still row added: 2 (P - 1) P ways in all.
            self.same(keeper_count(wide), 2 * (prime - 1) * (prime - 1) * prime ** 2)
            self.same(holding_count(wide, [(1, 0, 0)]), (prime - 1) ** 2 * prime)
            self.same(fixing_count(wide, [(1, 0, 0)]), (prime - 1) * prime)
            self.same(holding_count(wide, [(1, 0, 0), (0, 0, 1)]), (prime - 1) ** 2 * prime ** 2)
            self.same(fixing_count(wide, [(1, 0, 0), (0, 0, 1)]), prime)

    def test_some_numbers(self):
        three = Room(3, unit(3))
        self.same([holding_count(three, [(1, 1, 1)]), fixing_count(three, [(1, 1, 1)])], [12, 6])
        self.same([holding_count(three, [(1, 0, 0)]), fixing_count(three, [(1, 0, 0)])], [16, 8])
        self.same([holding_count(three, [(1, 1, 0)]), fixing_count(three, [(1, 1, 0)])], [8, 4])


class Refused(Case):

    def test_room(self):
        for value in no_rooms(3):
            self.refused(InvalidRoom, value, keeper_count, value)
            self.refused(InvalidRoom, value, keeper_count, room=value)
            for one in [None, (0, 0, 1, 0), []]:
                for function in (part_count, parts_with):
                    self.refused(InvalidRoom, value, function, value, one)
                    self.refused(InvalidRoom, value, function, kind=one, room=value)
                for function in (fixing_count, holding_count):
                    self.refused(InvalidRoom, value, function, value, one)
                    self.refused(InvalidRoom, value, function, part=one, room=value)

    def test_kind(self):
        for prime in PRIMES:
            # TooMany stands behind: the greater room has more rows.
            for room in [Room(prime, ()), Room(prime, unit(1)), Room(prime, unit(6))]:
                for value in NO_FOUR:
                    for function in (part_count, parts_with):
                        self.refused(InvalidKind, value, function, room, value)
                        self.refused(InvalidKind, value, function, kind=value, room=room)

    def test_part(self):
        for prime in (3, 13):
            for size in SIZES:
                for room in [Room(prime, unit(size)), Room(prime, ((0,) * size,) * size)]:
                    for value in no_parts(prime, size):
                        for function in (fixing_count, holding_count):
                            self.refused(InvalidPart, value, function, room, value)
                    self.refused(InvalidPart, None, fixing_count, part=None, room=room)
                    self.refused(InvalidPart, [[7] * size], holding_count, part=[[7] * size], room=room)


if __name__ == "__main__":
    unittest.main()
