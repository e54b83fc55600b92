"""Kinds of rooms, plain rooms, rooms in squares, and what leads to them."""

import unittest

from restkeepers.errors import InvalidKind, InvalidPrime, InvalidRoom
from restkeepers.keeping import is_lead
from restkeepers.plain import kind_of, plain_by, plain_lead, plain_room, squares_lead
from restkeepers.rooms import Room
from tests import reckon
from tests.cases import Case
from tests.reckon import NO_KIND, NO_PRIMES, PRIMES, Numbers, all_rows, no_rooms, room_samples, symmetric_tables

SIZES = range(7)
KINDS = [(size, rank, sign) for size in SIZES for rank in range(size + 1) for sign in (1, -1) if rank or sign == 1]
NO_KINDS = NO_KIND + [0, 1, (), [], (2,), (2, 1), (2, 1, 1, 0), (2, 1, 1, 1), (2, 1, -1, 0, 0), [2, 1, 1], [2, 1, -1],
                      [2, 0, 1], ((2, 1, 1),), "211", (2, 1, 0), (2, 1, 2), (2, 1, -2), (2, 1, 3), (2, 3, 1), (2, 3, -1),
                      (0, 1, 1), (0, 1, -1), (6, 7, 1), (7, 0, 1), (7, 7, 1), (7, 1, -1), (2, 0, -1), (0, 0, -1),
                      (6, 0, -1), (2, 0, 0), (0, 0, 0), (-1, 0, 1), (-1, -1, 1), (2, -1, 1), (2, -1, -1),
                      (True, 1, 1), (2, True, 1), (2, 1, True), (2, False, 1), (False, 0, 1), (0, False, 1), (0, 0, True),
                      (1, True, -1), (1, 1, False), ("2", 1, 1), (2, "1", 1), (2, 1, "1"), (None, 1, 1), (2, None, 1),
                      (2, 1, None), ([2], 1, 1), (2, (1,), 1), (2, 1, [1]), (10 ** 29, 1, 1), (2, 10 ** 29, 1),
                      (2, 1, 10 ** 29), (2, 1, -10 ** 29), {2: 1, 1: 1, -1: 1}]


def room_list():
    """Rooms of all primes, sizes and ranks, some with 0 along the middle."""
    return [Room(prime, table) for prime in PRIMES for size in SIZES for table in room_samples(prime, size)]


def small_rooms():
    """All rooms of small sizes by some primes."""
    for prime, most in [(3, 3), (5, 2), (7, 2), (11, 1), (13, 1)]:
        for size in range(most + 1):
            for table in symmetric_tables(prime, size):
                yield Room(prime, table)


def plain_table(prime, kind):
    """The table of the plain room, by the words of the document."""
    size, rank, sign = kind
    odd = min(rest for rest in range(1, prime) if reckon.sign(prime, rest) == -1)
    middle = [0] * size
    for at in range(rank):
        middle[at] = odd if sign == -1 and at == rank - 1 else 1
    return tuple(tuple(middle[i] if i == j else 0 for j in range(size)) for i in range(size))


class Kinds(Case):

    def test_small_rooms(self):
        for room in small_rooms():
            self.same(kind_of(room), reckon.room_kind(room.prime, room.rows()))

    def test_larger_rooms(self):
        for room in room_list():
            got = self.told(kind_of, room=room)
            self.assertIn(got, KINDS)
            self.same(got[:2], (room.size, room.rank))
            if room.size < 6:
                self.same(got, reckon.room_kind(room.prime, room.rows()))

    def test_rooms_without_still_rows_by_their_determinants(self):
        for prime in PRIMES:
            for seed in range(6):
                table = Numbers(seed).symmetric(prime, 6)
                found = reckon.determinant(prime, table)
                if found:
                    self.same(kind_of(Room(prime, table)), (6, 6, reckon.sign(prime, found)))

    def test_it_stays_where_rooms_are_led(self):
        for room in room_list():
            for seed in range(3):
                by = Numbers(seed).undone(room.prime, room.size)
                self.same(kind_of(room.led(by)), kind_of(room))

    def test_one_row(self):
        for prime in PRIMES:
            for rest in range(prime):
                self.same(kind_of(Room(prime, [[rest]])), (1, 1 if rest else 0, reckon.sign(prime, rest) or 1))

    def test_two_rows_that_see_one_another(self):
        for prime in PRIMES:
            for rest in range(1, prime):
                self.same(kind_of(Room(prime, [[0, rest], [rest, 0]])), (2, 2, reckon.sign(prime, -rest * rest % prime)))


class Plain(Case):

    def test_by_all_kinds_and_back(self):
        for prime in PRIMES:
            for kind in KINDS:
                room = self.told(plain_by, prime=prime, kind=kind)
                self.assertIsInstance(room, Room)
                self.same([room.prime, room.rows()], [prime, plain_table(prime, kind)])
                self.same(kind_of(room), kind)
                self.same(plain_room(room), room)

    def test_plain_rooms_of_rooms(self):
        for room in room_list():
            got = self.told(plain_room, room=room)
            self.assertIsInstance(got, Room)
            self.same([got.prime, got.rows()], [room.prime, plain_table(room.prime, kind_of(room))])
            self.assertEqual(plain_by(room.prime, kind_of(room)), got)

    def test_rooms_of_one_kind_alone_are_led_to_one_another(self):
        for table in symmetric_tables(3, 2):
            for other in symmetric_tables(3, 2):
                alike = any(is_lead(Room(3, table), Room(3, other), ((a, b), (c, d))) for a, b, c, d in all_rows(3, 4))
                self.assertIs(kind_of(Room(3, table)) == kind_of(Room(3, other)), alike)


class Leads(Case):

    def lead_of(self, function, room):
        """The table that the function returns, undone, and the table of the room that is led by it."""
        table = self.told(function, room=room)
        self.assertEqual([len(row) for row in table], [room.size] * room.size)
        self.assertTrue(isinstance(table, tuple) and reckon.plain_kind(table))
        self.assertTrue(all(0 <= rest < room.prime for row in table for rest in row))
        self.assertNotEqual(reckon.determinant(room.prime, table), 0)
        led = reckon.led_room(room.prime, room.rows(), table)
        self.same(room.led(table).rows(), led)
        return table, led

    def in_squares(self, room):
        _, led = self.lead_of(squares_lead, room)
        for i in range(room.size):
            for j in range(room.size):
                if i != j:
                    self.assertEqual(led[i][j], 0)
            self.assertEqual(led[i][i] != 0, i < room.rank)

    def led_plain(self, room):
        table, led = self.lead_of(plain_lead, room)
        self.same(led, plain_room(room).rows())
        self.same(led, plain_table(room.prime, kind_of(room)))
        self.assertEqual(room.led(table), plain_room(room))
        self.assertIs(is_lead(plain_room(room), room, table), True)

    def test_small_rooms(self):
        for room in small_rooms():
            self.in_squares(room)
            self.led_plain(room)

    def test_larger_rooms(self):
        for room in room_list():
            self.in_squares(room)
            self.led_plain(room)

    def test_all_kinds_led_by_tables(self):
        for prime in PRIMES:
            for kind in KINDS:
                room = Room(prime, plain_table(prime, kind)).led(Numbers(prime).undone(prime, kind[0]))
                self.in_squares(room)
                self.led_plain(room)
                self.same(kind_of(room), kind)

    def test_rooms_in_squares(self):
        for prime in PRIMES:
            for rests in [(1, 0, 2), (0, prime - 1, 0, 2), (0, 0, 0), (prime - 1,) * 6, (0, 2, 0, 2, 0, 2)]:
                table = [[rest if at == place else 0 for place in range(len(rests))] for at, rest in enumerate(rests)]
                self.in_squares(Room(prime, table))
                self.led_plain(Room(prime, table))

    def test_noughts_along_the_middle(self):
        for prime in PRIMES:
            for size in SIZES:
                for rest in range(1, prime):
                    room = Room(prime, [[0 if i == j else rest for j in range(size)] for i in range(size)])
                    self.in_squares(room)
                    self.led_plain(room)

    def test_noughts_alone(self):
        for prime in PRIMES:
            for size in SIZES:
                room = Room(prime, [[0] * size] * size)
                self.same(kind_of(room), (size, 0, 1))
                self.same(plain_room(room), room)
                self.in_squares(room)
                self.led_plain(room)


class Refused(Case):

    def test_room(self):
        for value in no_rooms(3):
            for function in [kind_of, plain_room, squares_lead, plain_lead]:
                self.refused(InvalidRoom, value, function, value)
                self.refused(InvalidRoom, value, function, room=value)

    def test_prime(self):
        for value in NO_PRIMES:
            for kind in [None, (2, 1, 1), [2, 1, 1]]:
                self.refused(InvalidPrime, value, plain_by, value, kind)
                self.refused(InvalidPrime, value, plain_by, kind=kind, prime=value)

    def test_kind(self):
        for prime in PRIMES:
            for value in NO_KINDS:
                self.refused(InvalidKind, value, plain_by, prime, value)
                self.refused(InvalidKind, value, plain_by, kind=value, prime=prime)

    def test_all_numbers_nearby(self):
        for size in range(-1, 9):
            for rank in range(-1, 9):
                for sign in range(-3, 4):
                    value = (size, rank, sign)
                    if value not in KINDS:
                        self.refused(InvalidKind, value, plain_by, 5, value)


if __name__ == "__main__":
    unittest.main()
