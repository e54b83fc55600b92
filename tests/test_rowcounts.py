"""Rows of a worth: how many, and which."""

import unittest

from restkeepers.errors import InvalidRest, InvalidRoom, TooMany
from restkeepers.rooms import Room
from restkeepers.rowcounts import row_count, rows_of, worth_counts
from tests.cases import Case
from tests.listing import all_rooms, plain_rooms
from tests.reckon import PRIMES, Numbers, all_rows, between, counted, no_rests, no_rooms, symmetric_tables, unit

SIZES = range(7)


def listed(room):
    """The rows of each worth, sorted, one list for each rest."""
    found = [[] for _ in range(room.prime)]
    for row in sorted(all_rows(room.prime, room.size)):
        found[between(room.prime, room.rows(), row, row)].append(row)
    return found


class Listed(Case):

    def check(self, room, told=False):
        wanted = listed(room)
        self.same(worth_counts(room), [len(rows) for rows in wanted])
        for rest in range(room.prime):
            self.same(row_count(room, rest), len(wanted[rest]))
            got = self.told(rows_of, room=room, rest=rest) if told else rows_of(room, rest)
            self.same(got, wanted[rest])

    def test_small_rooms(self):
        for prime, most in [(3, 2), (5, 2), (7, 1), (11, 1), (13, 1)]:
            for size in range(most + 1):
                for table in symmetric_tables(prime, size):
                    self.check(Room(prime, table), told=size < 2)

    def test_all_primes_and_all_sizes_that_can_be_listed(self):
        for prime in PRIMES:
            for size in SIZES:
                if prime ** size <= 700:
                    for seed, room in enumerate(plain_rooms(prime, size)):
                        self.check(room.led(Numbers(seed).undone(prime, size)))

    def test_the_greatest_that_can_be_listed(self):
        for prime, size in [(3, 6), (5, 4), (7, 4), (11, 3), (13, 3)]:
            for rank in (size, size - 1):
                self.check(Room(prime, Numbers(rank).low_symmetric(prime, size, rank)))

    def test_what_is_returned(self):
        room = Room(3, unit(2))
        self.same(self.told(rows_of, room=room, rest=1), [(0, 1), (0, 2), (1, 0), (2, 0)])
        self.same(rows_of(room, 0), [(0, 0)])
        rows_of(room, 1).clear()
        worth_counts(room).append(3)
        self.same([rows_of(room, 1), worth_counts(room)], [[(0, 1), (0, 2), (1, 0), (2, 0)], [1, 4, 4]])
        self.same(rows_of(Room(7, []), 0), [()])
        self.same(rows_of(Room(7, []), 3), [])
        self.same(rows_of(Room(3, [[0]]), 0), [(0,), (1,), (2,)])
        self.same(rows_of(Room(3, [[0]]), 1), [])


class Counted(Case):

    def test_plain_rooms_of_all_sizes(self):
        for prime in PRIMES:
            for size in SIZES:
                for seed, room in enumerate(plain_rooms(prime, size)):
                    wanted = counted(prime, [room.rows()[at][at] for at in range(size)])
                    other = room.led(Numbers(seed).undone(prime, size))
                    for one in (room, other):
                        self.same(self.told(worth_counts, room=one), wanted)
                    for rest in (0, 1, 2, prime - 1):
                        self.same(self.told(row_count, room=other, rest=rest), wanted[rest])
                        self.assertIs(type(row_count(other, rest)), int)

    def test_they_come_to_all_rows(self):
        for room in all_rooms():
            got = worth_counts(room)
            self.assertEqual(len(got), room.prime)
            self.assertEqual(sum(got), room.prime ** room.size)
            self.same(got, [row_count(rest=rest, room=room) for rest in range(room.prime)])

    def test_rooms_in_squares(self):
        for prime in PRIMES:
            for size in range(1, 7):
                for seed in range(4):
                    squares = Numbers(seed + prime).row(prime, size)
                    table = [[squares[i] if i == j else 0 for j in range(size)] for i in range(size)]
                    self.same(worth_counts(Room(prime, table)), counted(prime, squares))

    def test_rank_nought_and_still_rows(self):
        for prime in PRIMES:
            for size in SIZES:
                room = Room(prime, [[0] * size] * size)
                self.same(worth_counts(room), [prime ** size] + [0] * (prime - 1))
                self.same(row_count(room, 0), prime ** size)
                for more in range(1, 7 - size):
                    other = [list(row) + [0] * more for row in unit(size)] + [[0] * (size + more)] * more
                    wanted = [many * prime ** more for many in worth_counts(Room(prime, unit(size)))]
                    self.same(worth_counts(Room(prime, other)), wanted)

    def test_some_numbers(self):
        self.same(worth_counts(Room(5, [[0, 1, 0], [1, 0, 0], [0, 0, 0]])), [45, 20, 20, 20, 20])
        self.same(worth_counts(Room(3, unit(3))), [9, 6, 12])
        self.same(worth_counts(Room(3, [[2, 0, 0], [0, 1, 0], [0, 0, 1]])), [9, 12, 6])
        self.same(worth_counts(Room(3, unit(4))), [33, 24, 24])
        self.same(worth_counts(Room(5, [[2]])), [1, 0, 2, 2, 0])
        self.same(row_count(Room(7, ()), 0), 1)
        self.same(row_count(Room(7, ()), 1), 0)
        self.same(row_count(Room(13, unit(6)), 0), 13 ** 5 + 13 ** 3 - 13 ** 2)


class Refused(Case):

    def test_too_many_rows(self):
        for prime in PRIMES:
            for size in SIZES:
                for room in [Room(prime, unit(size)), Room(prime, [[0] * size] * size)]:
                    for rest in (0, prime - 1):
                        if prime ** size <= 2500:
                            self.assertIs(type(rows_of(room, rest)), list)
                        else:
                            got = self.raised(TooMany, rows_of, room, rest)
                            self.assertEqual((got.what, got.limit), ("rows", 2500))
                            self.raised(TooMany, rows_of, rest=rest, room=room)

    def test_room(self):
        for value in no_rooms(3):
            self.refused(InvalidRoom, value, worth_counts, value)
            self.refused(InvalidRoom, value, worth_counts, room=value)
            for function in (row_count, rows_of):
                for rest in (1, None, 20):
                    self.refused(InvalidRoom, value, function, value, rest)
                    self.refused(InvalidRoom, value, function, rest=rest, room=value)

    def test_rest(self):
        for prime in PRIMES:
            # TooMany is the last one: so it is not raised for rooms with more rows.
            for size in SIZES:
                for value in no_rests(prime):
                    for function in (row_count, rows_of):
                        self.refused(InvalidRest, value, function, Room(prime, unit(size)), value)
                        self.refused(InvalidRest, value, function, rest=value, room=Room(prime, unit(size)))


if __name__ == "__main__":
    unittest.main()
