"""Nought parts, the greatest ones, and rows of the worth 0."""

import unittest

from restkeepers.errors import InvalidPart, InvalidRoom, NotNought
from restkeepers.kinds import kinds, part_by
from restkeepers.noughts import greatest_nought, is_greatest, is_nought, nought_row, nought_size
from restkeepers.pairs import pair_count
from restkeepers.parts import part_of, still_in
from restkeepers.rooms import Room
from tests import listing, reckon
from tests.cases import Case
from tests.listing import all_rooms, no_parts, pair_total, plain_rooms, some_part, tuples
from tests.mapping import led, mixed_keeper
from tests.reckon import PRIMES, Numbers, all_rows, between, no_rooms, spanned, symmetric_tables, unit

SIZES = range(7)


def listed(prime, table):
    """All nought parts, by the worths of all that they stand for."""
    size = len(table)
    return [part for part in listing.parts(prime, size)
            if all(between(prime, table, row, row) == 0 for row in spanned(prime, size, part))]


def few_rooms():
    """Rooms whose parts and all that these stand for are listed."""
    found = listing.small_rooms()
    found += [(3, tuples(table)) for size in range(3) for table in symmetric_tables(3, size)]
    cross = [[1 if i + j == 3 else 0 for j in range(4)] for i in range(4)]
    return found + [(3, tuples(cross)), (3, unit(4)), (3, tuples(reckon.led_room(3, unit(4), Numbers(3).table(3, 4))))]


class NoughtCase(Case):

    def greatest(self, room, part, told=True):
        """A nought part of the greatest size that holds the part and all still rows."""
        ask = self.told if told else (lambda function, **named: function(**named))
        got = ask(greatest_nought, room=room, part=part)
        self.assertTrue(isinstance(got, list) and reckon.plain_kind(tuple(got)))
        self.assertTrue(listing.plain_part(room.prime, room.size, got))
        self.assertFalse(any(map(any, listing.among(room.prime, room.rows(), got))))
        self.assertEqual(len(got), room.size - room.rank + pair_total(room))
        self.same(part_of(room, got + [tuple(row) for row in part]), got)
        self.same(part_of(room, got + room.still()), got)
        self.assertIs(ask(is_greatest, room=room, value=got), True)
        self.assertIs(ask(is_nought, room=room, part=got), True)
        return got


class SmallRooms(NoughtCase):

    def test_all_nought_parts(self):
        for prime, table in few_rooms():
            room, found = Room(prime, table), listed(prime, table)
            most = max(len(part) for part in found)
            self.same(nought_size(room), most)
            for part in listing.parts(prime, len(table)):
                nought = part in found
                self.judged(nought, part, is_nought, room, part)
                self.judged(nought and len(part) == most, part, is_greatest, room, part)
                self.judged(nought and len(part) == most, part, is_greatest, room, [list(row) for row in part])
                if nought:
                    got = self.greatest(room, part, told=False)
                    self.assertIn(got, found)
                else:
                    self.raised(NotNought, greatest_nought, room, part)

    def test_all_rows_of_worth_nought(self):
        for prime, table in few_rooms():
            room = Room(prime, table)
            rows = [row for row in all_rows(prime, len(table))
                    if between(prime, table, row, row) == 0 and not listing.is_still(prime, table, row)]
            got = nought_row(room)
            self.assertIs(got is None, not rows)
            self.assertIs(pair_count(room) > 0, bool(rows))
            if rows:
                self.assertTrue(isinstance(got, tuple) and reckon.plain_kind(got))
                self.assertIn(got, rows)


class AllSizes(NoughtCase):

    def test_sizes(self):
        for prime in PRIMES:
            for size in SIZES:
                for seed, room in enumerate(plain_rooms(prime, size)):
                    wanted = size - room.rank + pair_total(room)
                    self.same(self.told(nought_size, room=room), wanted)
                    self.same(nought_size(room.led(Numbers(seed).undone(prime, size))), wanted)

    def test_sizes_of_some_rooms(self):
        for prime, table, wanted in [(3, unit(2), 0), (5, unit(2), 1), (7, unit(2), 0), (13, unit(2), 1), (3, unit(3), 1),
                                     (3, unit(4), 2), (5, unit(4), 2), (7, unit(6), 2), (5, unit(6), 3), (11, (), 0),
                                     (3, unit(1), 0), (3, ((0,),), 1), (7, ((0, 1), (1, 0)), 1), (13, ((0, 0),) * 2, 2)]:
            self.same(nought_size(Room(prime, table)), wanted)

    def test_rows(self):
        for room in all_rooms()[1::2]:
            got = self.told(nought_row, room=room)
            self.assertIs(got is None, pair_total(room) == 0)
            if got is not None:
                self.assertTrue(isinstance(got, tuple) and reckon.plain_kind(got))
                self.assertTrue(len(got) == room.size and all(0 <= rest < room.prime for rest in got))
                self.assertEqual(between(room.prime, room.rows(), got, got), 0)
                self.assertFalse(listing.is_still(room.prime, room.rows(), got))

    def test_the_empty_part_and_still_rows(self):
        for room in all_rooms()[::3]:
            self.greatest(room, [])
            self.greatest(room, room.still(), told=False)
            self.greatest(room, tuples(room.still()[1:]), told=False)
            self.assertIs(is_nought(room, []), True)
            self.assertIs(is_greatest(room, []), room.rank == room.size and pair_total(room) == 0)
            self.assertIs(is_nought(room, unit(room.size)), room.rank == 0)
            self.assertIs(is_greatest(room, unit(room.size)), room.rank == 0)

    def test_nought_parts_of_each_kind(self):
        for prime in PRIMES:
            for size in SIZES:
                for seed, room in enumerate(plain_rooms(prime, size)[::2]):
                    room = room.led(Numbers(seed).undone(prime, size))
                    keeper = mixed_keeper(prime, room.rows(), seed)
                    for kind in [kind for kind in kinds(room) if kind[1] == 0]:
                        part = part_of(room, led(prime, part_by(room, kind), keeper))
                        self.assertIs(is_nought(room, part), True)
                        self.greatest(room, part, told=False)

    def test_one_row_more_or_less(self):
        for room in all_rooms()[::2]:
            got = greatest_nought(room, [])
            for at in range(len(got)):
                less = got[:at] + got[at + 1:]
                self.assertIs(is_nought(room, less), True)
                self.judged(False, less, is_greatest, room, less)
            for row in unit(room.size):
                more = part_of(room, got + [row])
                if more != got:
                    self.judged(False, more, is_nought, room, more)
                    self.judged(False, more, is_greatest, room, more)
                    self.raised(NotNought, greatest_nought, room, more)

    def test_worths_alone_do_not_make_a_nought_part(self):
        # Both rows have the worth 0, their sum has not.
        for prime in PRIMES:
            room = Room(prime, [[0, 1], [1, 0]])
            self.assertIs(is_nought(room, [(1, 0), (0, 1)]), False)
            self.assertIs(is_nought(room, [(1, 0)]), True)
            self.raised(NotNought, greatest_nought, room, [(1, 0), (0, 1)])
            self.assertIs(is_greatest(room, [(1, 0), (0, 1)]), False)

    def test_mixed_parts(self):
        for room in all_rooms()[::3]:
            for many in range(room.size + 1):
                part = some_part(Numbers(many), room.prime, room.size, many)
                wanted = not any(map(any, listing.among(room.prime, room.rows(), part)))
                self.assertIs(self.told(is_nought, room=room, part=part), wanted)
                if wanted:
                    self.greatest(room, part, told=False)
                else:
                    self.raised(NotNought, greatest_nought, room, part)

    def test_noughts_alone_and_size_nought(self):
        for prime in PRIMES:
            for size in SIZES:
                room = Room(prime, [[0] * size] * size)
                self.same(nought_size(room), size)
                self.assertIsNone(nought_row(room))
                self.same(greatest_nought(room, []), list(unit(size)))
                self.assertIs(is_greatest(room, unit(size)), True)
                part = some_part(Numbers(size), prime, size, size // 2)
                self.same(still_in(room, part), part)
                self.assertIs(is_greatest(room, part), size == 0)

    def test_what_is_returned_is_new(self):
        room = Room(5, [[0, 1], [1, 0]])
        greatest_nought(room, [(1, 0)]).append("more")
        self.same(greatest_nought(room, [(1, 0)]), [(1, 0)])


class Refused(Case):

    def test_is_greatest_of_any_value(self):
        for prime in PRIMES:
            for size in SIZES:
                for room in [Room(prime, unit(size)), Room(prime, [[0] * size] * size)]:
                    for value in no_parts(prime, size):
                        self.judged(False, value, is_greatest, room, value)
                        self.judged(False, value, is_greatest, value=value, room=room)
        room = Room(5, unit(2))
        self.judged(True, None, is_greatest, room, [[1, 2]])
        for value in [[[True, 2]], [[1, 7]], [[2, 4]], [1, 2], ([1, 2], [1, 2]), [[1, 2], [1, 3]], [[1, 1]]]:
            self.judged(False, value, is_greatest, room, value)

    def test_room(self):
        for value in no_rooms(3):
            for function in (nought_size, nought_row):
                self.refused(InvalidRoom, value, function, value)
                self.refused(InvalidRoom, value, function, room=value)
            for one in [[], None]:
                for function in (is_nought, greatest_nought):
                    self.refused(InvalidRoom, value, function, value, one)
                    self.refused(InvalidRoom, value, function, part=one, room=value)
                self.refused(InvalidRoom, value, is_greatest, value, one)
                self.refused(InvalidRoom, value, is_greatest, value=one, room=value)

    def test_parts(self):
        for prime in (3, 13):
            for size in SIZES:
                room = Room(prime, unit(size))
                for value in no_parts(prime, size):
                    for function in (is_nought, greatest_nought):
                        self.refused(InvalidPart, value, function, room, value)
                        self.refused(InvalidPart, value, function, part=value, room=room)

    def test_no_nought_part(self):
        self.raised(NotNought, greatest_nought, Room(3, unit(1)), [(1,)])
        self.raised(NotNought, greatest_nought, part=[(1, 1)], room=Room(3, unit(2)))


if __name__ == "__main__":
    unittest.main()
