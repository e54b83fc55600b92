"""Whether rooms are alike, and leads from one to another one."""

import unittest

from restkeepers.errors import InvalidRoom
from restkeepers.keeping import is_lead
from restkeepers.likeness import alike, lead
from restkeepers.plain import kind_of, plain_by
from restkeepers.rooms import Room
from restkeepers.tables import times, undone
from tests import listing, reckon
from tests.cases import Case
from tests.reckon import PRIMES, Numbers, no_rooms, room_samples, symmetric_tables, unit

SIZES = range(7)


def kinds(size):
    return [(size, rank, sign) for rank in range(size + 1) for sign in (1, -1) if rank or sign == 1]


def put_together(prime, kind, seed):
    """A table of the kind that is made of ones, pairs and multiples, not led from the plain one."""
    size, rank, sign = kind
    numbers, middle = Numbers(seed), []
    table = [[0] * size for _ in range(size)]
    places = list(range(size))
    while len(middle) < rank:
        middle.append(places.pop(numbers.below(len(places))))
    while True:
        for at in range(0, rank, 2):
            i, j = middle[at], middle[min(at + 1, rank - 1)]
            if i != j and numbers.below(2):
                table[i][i] = table[j][j] = 0
                table[i][j] = table[j][i] = 1 + numbers.below(prime - 1)
            else:
                table[i][j] = table[j][i] = 0
                table[i][i], table[j][j] = 1 + numbers.below(prime - 1), 1 + numbers.below(prime - 1)
        found = reckon.determinant(prime, [[table[i][j] for j in middle] for i in middle])
        if reckon.sign(prime, found) == sign:
            return table


class Likeness(Case):

    def yes(self, room, other):
        """Both are alike, and the told lead is an undone table by which the second one led is the first one."""
        self.assertIs(self.told(alike, room=room, other=other), True)
        table = self.told(lead, room=room, other=other)
        self.assertTrue(isinstance(table, tuple) and reckon.plain_kind(table))
        self.assertEqual([len(row) for row in table], [room.size] * room.size)
        self.assertTrue(all(0 <= rest < room.prime for row in table for rest in row))
        self.assertNotEqual(reckon.determinant(room.prime, table), 0)
        self.same(reckon.led_room(room.prime, other.rows(), table), room.rows())
        self.assertEqual(other.led(table), room)
        self.assertIs(is_lead(room, other, table), True)

    def no(self, room, other):
        self.assertIs(self.told(alike, room=room, other=other), False)
        self.assertIsNone(self.told(lead, room=room, other=other))

    def against_all_tables(self, prime, size, firsts):
        tables = [listing.tuples(table) for table in symmetric_tables(prime, size)]
        by = listing.undone_tables(prime, size)
        for first in firsts:
            reached = {reckon.led_room(prime, first, table) for table in by}
            for second in tables:
                (self.yes if second in reached else self.no)(Room(prime, first), Room(prime, second))

    def test_small_rooms_against_all_undone_tables(self):
        for prime, most in [(3, 2), (5, 1), (7, 1), (11, 1), (13, 1)]:
            for size in range(most + 1):
                self.against_all_tables(prime, size, [listing.tuples(one) for one in symmetric_tables(prime, size)])

    def test_more_rooms_against_all_undone_tables(self):
        for prime, size in [(5, 2), (7, 2)]:
            self.against_all_tables(prime, size, [plain_by(prime, kind).rows() for kind in kinds(size)])
        for first in [((0, 1, 0), (1, 0, 0), (0, 0, 2)), ((1, 1, 1), (1, 1, 1), (1, 1, 2)), ((2, 1, 0), (1, 2, 0), (0, 0, 0))]:
            tables = list(symmetric_tables(3, 3))[::7]
            reached = {reckon.led_room(3, first, table) for table in listing.undone_tables(3, 3)}
            for second in tables:
                (self.yes if listing.tuples(second) in reached else self.no)(Room(3, first), Room(3, second))

    def test_a_room_and_it_led(self):
        for prime in PRIMES:
            for size in SIZES:
                for seed, table in enumerate(room_samples(prime, size)[::2]):
                    room = Room(prime, table)
                    other = room.led(Numbers(seed).undone(prime, size))
                    self.yes(room, other)
                    self.yes(other, room)
                    self.yes(room, Room(prime, table))

    def test_one_kind_and_not_led_from_one_another(self):
        for prime in PRIMES:
            for size in SIZES:
                for kind in kinds(size):
                    room, other = [Room(prime, put_together(prime, kind, seed)) for seed in (1, 2)]
                    self.same([kind_of(room), kind_of(other)], [kind, kind])
                    self.yes(room, other)
                    self.yes(plain_by(prime, kind), room)

    def test_unlike_kinds(self):
        for prime in PRIMES:
            for size in SIZES:
                rooms = [Room(prime, put_together(prime, kind, 5)) for kind in kinds(size)]
                for room in rooms:
                    for other in rooms:
                        if room != other:
                            self.assertIs(alike(room, other), False)
                            self.assertIsNone(lead(room, other))
                if size:
                    self.no(rooms[0], rooms[-1])

    def test_signs_part_rooms_of_one_rank(self):
        for prime in PRIMES:
            for size in range(1, 7):
                for odd in range(1, prime):
                    table = [list(row) for row in unit(size)]
                    table[-1][-1] = odd
                    check = self.yes if reckon.sign(prime, odd) == 1 else self.no
                    check(Room(prime, unit(size)), Room(prime, table))

    def test_unlike_primes_and_sizes(self):
        for prime in PRIMES:
            for size in SIZES:
                room, still = Room(prime, unit(size)), Room(prime, [[0] * size] * size)
                for other in PRIMES:
                    if other != prime:
                        self.no(room, Room(other, unit(size)))
                        self.no(still, Room(other, [[0] * size] * size))
                for other in SIZES:
                    if other != size:
                        self.no(room, Room(prime, unit(other)))
                        self.no(still, Room(prime, [[0] * other] * other))

    def test_leads_put_together(self):
        for prime in PRIMES:
            for kind in [(2, 2, -1), (4, 3, 1), (5, 5, -1), (6, 4, 1)]:
                first, second, third = [Room(prime, put_together(prime, kind, seed)) for seed in (1, 2, 3)]
                on, behind = lead(first, second), lead(second, third)
                self.assertIs(is_lead(first, third, times(prime, on, behind)), True)
                self.assertIs(is_lead(second, first, undone(prime, on)), True)


class Refused(Case):

    def test_rooms(self):
        room = Room(3, [[1]])
        for function in (alike, lead):
            for value in no_rooms(3):
                for other in [None, room, value]:
                    self.refused(InvalidRoom, value, function, value, other)
                    self.refused(InvalidRoom, value, function, other=other, room=value)
                self.refused(InvalidRoom, value, function, room, value)
                self.refused(InvalidRoom, value, function, other=value, room=room)


if __name__ == "__main__":
    unittest.main()
