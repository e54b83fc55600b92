"""Rooms: what they are made of, worths and betweens, still rows, rooms led."""

import unittest

from restkeepers.errors import InvalidPrime, InvalidRow, InvalidRows, InvalidTable
from restkeepers.rooms import Room
from tests import reckon
from tests.cases import Case
from tests.reckon import NO_KIND, NO_PRIMES, PRIMES, THING, Numbers, all_rows, no_rows, no_tables, room_samples, unit

SIZES = range(7)


def tuples(rows):
    return tuple(tuple(row) for row in rows)


def places(size):
    return [(i, j) for i in range(size) for j in range(i)]


class Made(Case):

    def test_parts(self):
        for prime in PRIMES:
            for size in SIZES:
                for table in room_samples(prime, size):
                    mixed = [tuple(row) if at % 2 else row for at, row in enumerate(table)]
                    for rows in [table, tuples(table), mixed, tuple(mixed)]:
                        room = self.told(Room, prime=prime, rows=rows)
                        self.same([room.prime, room.size], [prime, size])
                        self.same(room.rows(), tuples(table))
                        self.same(room.rank, reckon.room_kind(prime, table)[1] if size < 6 else room.rank)
                        self.assertEqual(room.rank, size - len(room.still()))

    def test_ranks_of_rooms_of_size_6(self):
        for prime in PRIMES:
            for rank in SIZES:
                table = Numbers(rank).undone(prime, 6)
                plain = [[1 if i == j and i < rank else 0 for j in range(6)] for i in range(6)]
                self.same(Room(prime, reckon.led_room(prime, plain, table)).rank, rank)

    def test_symmetric_tables_only(self):
        for a, b, c, d in all_rows(3, 4):
            if b == c:
                self.same(Room(3, [[a, b], [c, d]]).rows(), ((a, b), (c, d)))
            else:
                self.refused(InvalidRows, [[a, b], [c, d]], Room, 3, [[a, b], [c, d]])
        for prime in PRIMES:
            for size in range(2, 7):
                for i, j in places(size):
                    table = Numbers(size).symmetric(prime, size)
                    table[i][j] = (table[i][j] + 1) % prime
                    self.refused(InvalidRows, table, Room, prime, table)
                    self.refused(InvalidRows, tuples(table), Room, rows=tuples(table), prime=prime)

    def test_it_copies_what_it_is_given(self):
        rows = [[1, 2], [2, 0]]
        room = Room(5, rows)
        rows[0][1] = 4
        rows.append([0, 0])
        self.same(room.rows(), ((1, 2), (2, 0)))
        self.same([room.size, room.rank, room.worth([0, 1]), room.between([1, 0], [0, 1])], [2, 2, 0, 2])

    def test_told_lists_are_new(self):
        room = Room(3, [[0, 0], [0, 0]])
        room.still().append((1, 1))
        room.still().clear()
        self.same(room.still(), [(1, 0), (0, 1)])

    def test_it_never_changes(self):
        room = Room(3, [[1]])
        for name in ["prime", "size", "rank"]:
            self.assertRaises(AttributeError, setattr, room, name, 2)
        self.same([room.prime, room.size, room.rank], [3, 1, 1])


class Equal(Case):

    def test_same_prime_and_table(self):
        for prime in PRIMES:
            for size in SIZES:
                for table in room_samples(prime, size):
                    self.assertIs(Room(prime, table) == Room(prime, tuples(table)), True)
                    self.assertIs(Room(prime, table) != Room(prime, tuples(table)), False)
                    room = Room(prime, table)
                    self.assertIs(room == room, True)

    def test_unlike_ones(self):
        rooms = [Room(prime, table) for prime in (3, 5) for size in range(3)
                 for table in reckon.symmetric_tables(3, size)]
        for at, room in enumerate(rooms):
            for other_at, other in enumerate(rooms):
                self.assertIs(room == other, at == other_at)
                self.assertIs(room != other, at != other_at)

    def test_every_place_counts(self):
        for size in range(1, 7):
            for i, j in places(size) + [(i, i) for i in range(size)]:
                table = Numbers(size).symmetric(7, size)
                room = Room(7, table)
                table[i][j] = table[j][i] = (table[i][j] + 1) % 7
                self.assertIs(room == Room(7, table), False)

    def test_other_kinds(self):
        room = Room(3, [[1, 0], [0, 2]])
        for value in NO_KIND + [0, 3, ((1, 0), (0, 2)), (3, ((1, 0), (0, 2))), [[1, 0], [0, 2]], repr(room)]:
            self.assertIs(room == value, False)
            self.assertIs(room != value, True)
        self.assertFalse(room in [None, THING, room.rows()])
        self.assertTrue(Room(3, ((1, 0), (0, 2))) in [None, room])

    def test_repr(self):
        self.assertEqual(repr(Room(3, [[1, 0], (0, 2)])), "Room(3, ((1, 0), (0, 2)))")
        self.assertEqual(repr(Room(13, [[12]])), "Room(13, ((12,),))")
        self.assertEqual(repr(Room(5, [])), "Room(5, ())")
        for prime in PRIMES:
            for size in SIZES:
                room = Room(prime, Numbers(size).symmetric(prime, size))
                self.assertEqual(eval(repr(room)), room)


class Worths(Case):

    def test_against_sums(self):
        for prime in PRIMES:
            for size in SIZES:
                numbers = Numbers(size)
                for table in room_samples(prime, size):
                    room = Room(prime, table)
                    row, other = numbers.row(prime, size), numbers.row(prime, size)
                    self.same(self.told(room.worth, row=row), reckon.between(prime, table, row, row))
                    self.same(room.worth(tuple(row)), reckon.between(prime, table, row, row))
                    wanted = reckon.between(prime, table, row, other)
                    self.same(self.told(room.between, row=row, other=other), wanted)
                    self.same(room.between(tuple(row), tuple(other)), wanted)
                    self.same(room.between(other, row), wanted)

    def test_units(self):
        for prime in PRIMES:
            for size in SIZES:
                table = Numbers(size).symmetric(prime, size)
                room = Room(prime, table)
                for i in range(size):
                    self.same(room.worth(unit(size)[i]), table[i][i])
                    self.same([room.between(unit(size)[i], row) for row in unit(size)], table[i])

    def test_sums_of_multiples(self):
        for prime in PRIMES:
            for size in range(1, 7):
                for table in room_samples(prime, size)[:6]:
                    room = Room(prime, table)
                    x, y, z = Numbers(size).rows(prime, size, 3)
                    a, b = 2, prime - 2
                    total = reckon.mixed(prime, size, [a, b], [x, y])
                    self.assertEqual(room.between(total, z), (a * room.between(x, z) + b * room.between(y, z)) % prime)
                    both = reckon.mixed(prime, size, [1, 1], [x, y])
                    self.assertEqual(room.worth(both),
                                     (room.worth(x) + room.worth(y) + 2 * room.between(x, y)) % prime)


class Still(Case):

    def test_against_all_rows(self):
        for prime, most in [(3, 4), (5, 3), (7, 2), (11, 2), (13, 2)]:
            for size in range(most + 1):
                for table in room_samples(prime, size):
                    got = self.told(Room(prime, table).still)
                    self.assertTrue(isinstance(got, list) and reckon.plain_kind(tuple(got)))
                    self.assertTrue(reckon.in_steps(got))
                    wanted = {row for row in all_rows(prime, size)
                              if not any(reckon.between(prime, table, row, other) for other in unit(size))}
                    self.assertEqual(reckon.spanned(prime, size, got), wanted)

    def test_larger_rooms(self):
        for prime in PRIMES:
            for size in SIZES:
                for table in room_samples(prime, size):
                    room = Room(prime, table)
                    got = room.still()
                    self.assertTrue(reckon.in_steps(got))
                    self.assertEqual(len(got), size - room.rank)
                    for row in got:
                        for other in unit(size):
                            self.assertEqual(reckon.between(prime, table, row, other), 0)

    def test_a_still_row_added_changes_no_between(self):
        for prime in PRIMES:
            table = Numbers(prime).low_symmetric(prime, 5, 3)
            room, (x, y) = Room(prime, table), Numbers(prime).rows(prime, 5, 2)
            self.assertGreater(len(room.still()), 1)
            for row in room.still():
                added = reckon.mixed(prime, 5, [1, 2], [x, row])
                self.assertEqual(room.between(added, y), room.between(x, y))
                self.assertEqual(room.worth(added), room.worth(x))

    def test_rank_0_exactly_if_all_rows_are_still(self):
        for size in SIZES:
            room = Room(5, [[0] * size] * size)
            self.same([room.rank, room.still()], [0, list(unit(size))])
            for i in range(size):
                self.assertNotEqual(Room(5, [[int(i == j == k) for k in range(size)] for j in range(size)]).rank, 0)


class Led(Case):

    def test_against_sums(self):
        for prime in PRIMES:
            for size in SIZES:
                numbers = Numbers(size)
                for table in room_samples(prime, size):
                    room = Room(prime, table)
                    for by in [numbers.table(prime, size), numbers.low_table(prime, size, 2), unit(size)]:
                        got = self.told(room.led, table=by)
                        self.assertIsInstance(got, Room)
                        self.same([got.prime, got.rows()], [prime, reckon.led_room(prime, table, by)])
                        self.assertEqual(room.led(tuples(by)), got)

    def test_worths_are_those_of_the_rows_led(self):
        for row in all_rows(3, 2):
            for a, b, c, d in all_rows(3, 4):
                room = Room(3, [[1, 2], [2, 0]])
                led = reckon.mixed(3, 2, row, [(a, b), (c, d)])
                self.assertEqual(room.led([[a, b], [c, d]]).worth(row), room.worth(led))

    def test_led_twice(self):
        for prime in PRIMES:
            for size in SIZES:
                for table in room_samples(prime, size)[:5]:
                    first, second = Numbers(1).table(prime, size), Numbers(2).table(prime, size)
                    room = Room(prime, table)
                    self.assertEqual(room.led(first).led(second), room.led(reckon.multiplied(prime, second, first)))

    def test_rank_stays_if_the_table_is_undone(self):
        for prime in PRIMES:
            for size in SIZES:
                for table in room_samples(prime, size):
                    room = Room(prime, table)
                    self.assertEqual(room.led(Numbers(prime).undone(prime, size)).rank, room.rank)


class Refused(Case):

    def test_prime(self):
        for value in NO_PRIMES:
            for rows in [None, [], [[1]]]:
                self.refused(InvalidPrime, value, Room, value, rows)
                self.refused(InvalidPrime, value, Room, rows=rows, prime=value)

    def test_rows(self):
        for prime in PRIMES:
            for value in no_tables(prime, None):
                self.refused(InvalidRows, value, Room, prime, value)
                self.refused(InvalidRows, value, Room, rows=value, prime=prime)

    def test_row(self):
        for prime in (3, 13):
            for size in SIZES:
                room = Room(prime, unit(size))
                for value in no_rows(prime, size):
                    self.refused(InvalidRow, value, room.worth, value)
                    self.refused(InvalidRow, value, room.worth, row=value)
                    self.refused(InvalidRow, value, room.between, [0] * size, value)
                    self.refused(InvalidRow, value, room.between, other=value, row=(0,) * size)
                    for other in [None, [prime] * 6, [0] * size]:
                        self.refused(InvalidRow, value, room.between, value, other)

    def test_table(self):
        for prime in (3, 13):
            for size in SIZES:
                for value in no_tables(prime, size):
                    self.refused(InvalidTable, value, Room(prime, unit(size)).led, value)
                    self.refused(InvalidTable, value, Room(prime, unit(size)).led, table=value)


if __name__ == "__main__":
    unittest.main()
