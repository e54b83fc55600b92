"""Kinds of parts: which there are, and parts of each."""

import unittest

from restkeepers.errors import InvalidKind, InvalidPart, InvalidRoom
from restkeepers.kinds import alike_parts, is_kind, kinds, part_by, part_kind
from restkeepers.parts import is_part
from restkeepers.rooms import Room
from tests import listing, reckon
from tests.cases import Case
from tests.listing import all_rooms, no_parts, plain_rooms, some_part, tuples
from tests.reckon import NO_KIND, PRIMES, Numbers, no_rooms, unit

SIZES = range(7)
# No room has a part of such a kind.
NO_KINDS = NO_KIND + [0, 1, (), [], (0,), (0, 0, 1), (0, 0, 1, 0, 0), [0, 0, 1, 0], ((0, 0, 1, 0),), "0010",
                      (0, 0, -1, 0), (0, 0, 0, 0), (0, 0, 2, 0), (-1, 0, 1, 0), (0, -1, 1, 0), (0, 0, 1, -1), (0, 0, 1, 1),
                      (0, 1, 1, 0), (7, 0, 1, 0), (7, 7, 1, 0), (7, 0, 1, 7), (1, 2, 1, 0), (1, 0, -1, 0), (1, 0, 1, 2),
                      (1, 1, 0, 0), (1, 1, 2, 0), (1, 1, -2, 0), (1, 1, 1, 1), (1, 1, 1, -1), (-1, -1, 1, 0),
                      (False, 0, 1, 0), (0, False, 1, 0), (0, 0, True, 0), (0, 0, 1, False), (True, 1, 1, 0),
                      (1, True, 1, 0), (1, 1, True, 0), (1, 1, 1, False), (1, False, 1, 1), (1, 0, 1, True),
                      (None, 0, 1, 0), (0, None, 1, 0), (0, 0, None, 0), (0, 0, 1, None), ("0", 0, 1, 0), (0, "0", 1, 0),
                      (0, 0, "1", 0), (0, 0, 1, "0"), ([0], 0, 1, 0), (0, 0, 1, (0,)), (10 ** 29, 0, 1, 0),
                      (0, 0, 1, 10 ** 29), (0, 0, 10 ** 29, 0), {0: 0, 1: 0, 2: 1, 3: 0}]


def kinds_by_words(room):
    """The kinds of [45], by trying all numbers."""
    size, rank, sign = reckon.room_kind(room.prime, room.rows())
    minus = reckon.sign(room.prime, room.prime - 1)
    found = []
    for k in range(size + 1):
        for r in range(k + 1):
            for e in (-1, 1):
                for t in range(k + 1):
                    s, y = k - t - r, rank - r - 2 * (k - t - r)
                    if t <= size - rank and s >= 0 and y >= 0 and (e == 1 or r > 0) and \
                            (y > 0 or sign == e * minus ** s):
                        found.append((k, r, e, t))
    return found


class PartKinds(Case):

    def test_against_all_that_parts_stand_for(self):
        for prime, table in listing.small_rooms():
            room = Room(prime, table)
            for part in listing.parts(prime, len(table)):
                wanted = listing.part_kind(prime, table, part)
                self.same(part_kind(room, part), wanted)

    def test_all_sizes(self):
        for room in all_rooms():
            prime, size, numbers = room.prime, room.size, Numbers(4)
            for many in range(0, size + 1, 2):
                part = some_part(numbers, prime, size, many)
                got = self.told(part_kind, room=room, part=part)
                self.assertTrue(isinstance(got, tuple) and reckon.plain_kind(got))
                self.same(part_kind(room, tuples(part)), got)
                self.same(got[:3], reckon.room_kind(prime, listing.among(prime, room.rows(), part)))
                seen = [reckon.mixed(prime, size, row, room.rows()) for row in part]
                if prime ** many < 400:
                    self.same(got[3], many - listing.logarithm(prime, len(reckon.spanned(prime, size, seen))))

    def test_ends(self):
        for room in all_rooms():
            still = room.size - room.rank
            self.same(part_kind(room, []), (0, 0, 1, 0))
            self.same(part_kind(room, room.still()), (still, 0, 1, still))
            if room.size < 5:
                self.same(part_kind(room, unit(room.size)), reckon.room_kind(room.prime, room.rows()) + (still,))

    def test_parts_led_by_keepers(self):
        for prime, table in [(3, unit(3)), (3, ((0, 1, 0), (1, 0, 0), (0, 0, 0))), (5, unit(2)), (5, ((0, 1), (1, 0))),
                             (3, ((1, 1, 1), (1, 1, 1), (1, 1, 1))), (3, ((2, 1, 0), (1, 1, 0), (0, 0, 1)))]:
            room = Room(prime, table)
            for keeper in listing.keepers(prime, table)[::11]:
                for part in listing.parts(prime, len(table)):
                    led = listing.told_part(prime, len(table), [reckon.mixed(prime, len(table), row, keeper) for row in part])
                    self.same(part_kind(room, led), part_kind(room, part))
                    self.assertIs(alike_parts(room, part, led), True)


class Kinds(Case):

    def test_all_parts_of_small_rooms(self):
        for prime, table in listing.small_rooms():
            wanted = {listing.part_kind(prime, table, part) for part in listing.parts(prime, len(table))}
            self.same(self.told(kinds, room=Room(prime, table)), sorted(wanted))

    def test_all_parts_of_size_four(self):
        for table in [unit(4), ((0, 1, 0, 0), (1, 0, 0, 0), (0, 0, 0, 1), (0, 0, 1, 0)), ((1, 0, 0, 0), (0, 2, 0, 0),
                      (0, 0, 1, 0), (0, 0, 0, 0)), ((1, 1, 0, 0), (1, 1, 0, 0), (0, 0, 1, 0), (0, 0, 0, 0))]:
            wanted = {listing.part_kind(3, table, part) for part in listing.parts(3, 4)}
            self.same(kinds(Room(3, table)), sorted(wanted))

    def test_by_words(self):
        for prime in PRIMES:
            for size in SIZES:
                for room in plain_rooms(prime, size):
                    got = self.told(kinds, room=room)
                    self.assertTrue(isinstance(got, list) and reckon.plain_kind(tuple(got)))
                    self.same(got, sorted(kinds_by_words(room)))
                    kinds(room).clear()
                    kinds(room).append(got)
                    self.same(kinds(room), got)

    def test_rooms_led_have_the_same(self):
        for prime in PRIMES:
            for size in SIZES:
                for room in plain_rooms(prime, size):
                    self.same(kinds(room.led(Numbers(size).undone(prime, size))), kinds(room))

    def test_what_the_document_tells(self):
        ball = Room(3, unit(3))
        self.same(kinds(ball), [(0, 0, 1, 0), (1, 0, 1, 0), (1, 1, -1, 0), (1, 1, 1, 0), (2, 1, -1, 0), (2, 2, -1, 0),
                                (2, 2, 1, 0), (3, 3, 1, 0)])
        self.same(part_by(ball, (0, 0, 1, 0)), [])
        for part in listing.parts(3, 3):
            if part_kind(ball, part)[:2] == (2, 1):
                worths = {ball.worth(row) for row in reckon.spanned(3, 3, part)}
                self.assertEqual(worths, {0, 2})
        self.same(kinds(Room(5, [])), [(0, 0, 1, 0)])
        self.same(kinds(Room(5, [[0]])), [(0, 0, 1, 0), (1, 0, 1, 1)])
        self.same(kinds(Room(5, [[2]])), [(0, 0, 1, 0), (1, 1, -1, 0)])

    def test_is_kind(self):
        near = list(reckon.product(range(-1, 5), range(-1, 5), (-2, -1, 0, 1, 2), range(-1, 4)))
        for prime in (3, 5):
            for size in range(4):
                for room in plain_rooms(prime, size):
                    wanted = kinds_by_words(room)
                    for value in near:
                        self.judged(value in wanted, value, is_kind, room, value)

    def test_is_kind_of_any_value(self):
        for prime in PRIMES:
            for size in SIZES:
                for room in plain_rooms(prime, size):
                    for value in NO_KINDS:
                        self.judged(False, value, is_kind, room, value)
                    for kind in kinds(room):
                        self.judged(True, kind, is_kind, value=kind, room=room)
                        self.judged(False, list(kind), is_kind, room, list(kind))
                        self.judged(False, kind + (0,), is_kind, room, kind + (0,))
                        self.judged(False, kind[:3], is_kind, room, kind[:3])
                    self.assertIs(self.told(is_kind, room=room, value=(0, 0, 1, 0)), True)


class PartsBy(Case):

    def check(self, room, kind):
        part = self.told(part_by, room=room, kind=kind)
        self.assertTrue(isinstance(part, list) and reckon.plain_kind(tuple(part)))
        self.assertTrue(listing.plain_part(room.prime, room.size, part))
        self.assertIs(is_part(room, part), True)
        self.same(part_kind(room, part), kind)
        part_by(room, kind).append(part)
        self.same(part_by(room, kind), part)
        return part

    def test_each_kind_of_small_rooms(self):
        for prime, table in listing.small_rooms():
            for kind in kinds(Room(prime, table)):
                part = self.check(Room(prime, table), kind)
                self.same(listing.part_kind(prime, table, part), kind)

    def test_each_kind_of_all_sizes(self):
        for prime in PRIMES:
            for size in SIZES:
                for at, room in enumerate(plain_rooms(prime, size)):
                    room = room.led(Numbers(at).undone(prime, size))
                    wanted = kinds_by_words(room)
                    # Of the many kinds of the greatest rooms each place among them is taken by some prime.
                    for kind in wanted if size < 4 else wanted[PRIMES.index(prime)::5]:
                        self.check(room, kind)

    def test_no_part_of_the_room(self):
        for prime in PRIMES:
            for size in SIZES:
                for room in plain_rooms(prime, size):
                    wanted = kinds_by_words(room)
                    for kind in [(1, 1, 1, 0), (1, 0, 1, 1), (2, 0, 1, 0), (size, 0, 1, 0), (size, size, 1, 0),
                                 (size, size, -1, 0), (size, 0, 1, size), (size + 1, 0, 1, size)]:
                        if kind not in wanted:
                            self.refused(InvalidKind, kind, part_by, room, kind)


class AlikeParts(Case):

    def test_all_parts_of_small_rooms(self):
        for prime, table in [(3, ((1, 0), (0, 0))), (3, unit(2)), (3, ((0, 1, 0), (1, 0, 0), (0, 0, 0))), (5, ((0, 1), (1, 0)))]:
            room, parts = Room(prime, table), listing.parts(prime, len(table))
            told = [listing.part_kind(prime, table, part) for part in parts]
            for part, first in zip(parts, told):
                for other, second in zip(parts, told):
                    self.judged(first == second, other, alike_parts, room, part, other)

    def test_all_sizes(self):
        for room in all_rooms()[::2]:
            numbers = Numbers(room.prime)
            for many in range(0, room.size + 1, 2):
                part, other = [some_part(numbers, room.prime, room.size, many) for _ in range(2)]
                wanted = part_kind(room, part) == part_kind(room, other)
                self.assertIs(self.told(alike_parts, room=room, part=part, other=tuples(other)), wanted)
                self.assertIs(alike_parts(room, tuples(part), part), True)
                if many:
                    self.assertIs(alike_parts(room, part, []), False)

    def test_own_rooms_alike_and_other_still_parts(self):
        for prime in PRIMES:
            room = Room(prime, [[0, 1, 0], [1, 0, 0], [0, 0, 0]])
            self.assertIs(alike_parts(room, [(1, 0, 0)], [(0, 0, 1)]), False)
            self.assertIs(alike_parts(room, [(1, 0, 0)], [(0, 1, 2)]), True)


class Refused(Case):

    def test_room(self):
        for value in no_rooms(5):
            self.refused(InvalidRoom, value, kinds, value)
            self.refused(InvalidRoom, value, kinds, room=value)
            for one in [[], None, (0, 0, 1, 0)]:
                self.refused(InvalidRoom, value, part_kind, value, one)
                self.refused(InvalidRoom, value, part_kind, part=one, room=value)
                self.refused(InvalidRoom, value, is_kind, value, one)
                self.refused(InvalidRoom, value, is_kind, value=one, room=value)
                self.refused(InvalidRoom, value, part_by, value, one)
                self.refused(InvalidRoom, value, part_by, kind=one, room=value)
                self.refused(InvalidRoom, value, alike_parts, value, one, None)
                self.refused(InvalidRoom, value, alike_parts, other=one, part=None, room=value)

    def test_parts(self):
        for prime in (3, 11):
            for size in SIZES:
                room = Room(prime, unit(size))
                for value in no_parts(prime, size):
                    self.refused(InvalidPart, value, part_kind, room, value)
                    self.refused(InvalidPart, value, alike_parts, room, value, None)
                    self.refused(InvalidPart, value, alike_parts, room, [], value)
        for value in NO_KIND + [[[2, 0]], [[0, 1], [1, 0]], [[1, 3]], [[1, True]]]:
            self.refused(InvalidPart, value, part_kind, part=value, room=Room(3, unit(2)))
            self.refused(InvalidPart, value, alike_parts, other=[[2, 2]], part=value, room=Room(3, unit(2)))
            self.refused(InvalidPart, value, alike_parts, other=value, part=[], room=Room(3, unit(2)))

    def test_kind(self):
        for prime in PRIMES:
            for size in SIZES:
                for value in NO_KINDS:
                    self.refused(InvalidKind, value, part_by, Room(prime, unit(size)), value)
                    self.refused(InvalidKind, value, part_by, kind=value, room=Room(prime, [[0] * size] * size))


if __name__ == "__main__":
    unittest.main()
