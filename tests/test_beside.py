"""Rooms side by side, rooms times a rest, and what is left of a room beside another one."""

import unittest

from restkeepers.beside import beside, scaled, taken_off
from restkeepers.errors import InvalidRest, InvalidRoom, TooMany, UnlikePrimes
from restkeepers.likeness import alike
from restkeepers.plain import kind_of, plain_by, plain_room
from restkeepers.rooms import Room
from tests import reckon
from tests.cases import Case
from tests.listing import plain_rooms
from tests.reckon import PRIMES, Numbers, led_room, no_rests, no_rooms, room_kind, room_samples, unit

SIZES = range(7)


def mixed_room(room, seed):
    """A room that is alike to the room and looks mixed."""
    return Room(room.prime, led_room(room.prime, room.rows(), Numbers(seed).undone(room.prime, room.size)))


def plain_kinds(size):
    return [(size, rank, sign) for rank in range(size + 1) for sign in (1, -1) if rank or sign == 1]


class Beside(Case):

    def check(self, room, other):
        got = self.told(beside, room=room, other=other)
        first, second = room.rows(), other.rows()
        wanted = [row + (0,) * len(second) for row in first] + [(0,) * len(first) + row for row in second]
        self.assertIs(type(got), Room)
        self.same(got.rows(), tuple(wanted))
        self.same(got.prime, room.prime)
        (size, rank, sign), (more, higher, share) = room_kind(room.prime, first), room_kind(room.prime, second)
        self.same(kind_of(got), (size + more, rank + higher, sign * share))

    def test_rooms_of_all_sorts(self):
        for prime in PRIMES:
            for size in SIZES:
                for more in range(7 - size):
                    rooms, others = room_samples(prime, size), room_samples(prime, more)
                    for seed, table in enumerate(rooms):
                        for at in (seed, 3 * seed + 1):
                            self.check(Room(prime, table), Room(prime, others[at % len(others)]))

    def test_worths_are_added_up(self):
        for prime in PRIMES:
            for size in range(4):
                numbers = Numbers(size + prime)
                room, other = Room(prime, numbers.symmetric(prime, size)), Room(prime, numbers.symmetric(prime, 3))
                both = beside(room, other)
                for _ in range(10):
                    x, y = numbers.row(prime, size), numbers.row(prime, 3)
                    self.assertEqual(both.worth(x + y), (room.worth(x) + other.worth(y)) % prime)

    def test_beside_the_empty_room(self):
        for prime in PRIMES:
            empty = Room(prime, ())
            for size in SIZES:
                for room in plain_rooms(prime, size):
                    self.assertEqual(beside(room, empty), room)
                    self.assertEqual(beside(empty, room), room)

    def test_too_great(self):
        for prime in PRIMES:
            for size in SIZES:
                for more in range(7 - size, 7):
                    room, other = Room(prime, unit(size)), Room(prime, ((0,) * more,) * more)
                    for told in [(room, other), (other, room)]:
                        got = self.raised(TooMany, beside, *told)
                        self.assertEqual((got.what, got.limit), ("size", 6))
                    self.raised(TooMany, beside, other=other, room=room)

    def test_unlike_primes_ahead_of_too_many(self):
        for prime in PRIMES:
            for other in PRIMES:
                if prime != other:
                    for size in SIZES:
                        told = (Room(prime, unit(size)), Room(other, unit(6 - size)))
                        for function in (beside, taken_off):
                            self.raised(UnlikePrimes, function, *told)
                            self.raised(UnlikePrimes, function, other=told[1], room=told[0])
                        self.raised(UnlikePrimes, beside, Room(prime, unit(size)), Room(other, unit(6)))


class Scaled(Case):

    def test_rooms_of_all_sorts(self):
        for prime in PRIMES:
            for size in SIZES:
                for seed, table in enumerate(room_samples(prime, size)):
                    room = Room(prime, table)
                    for rest in range(prime) if seed < 3 else (0, 1, prime - 1):
                        got = self.told(scaled, room=room, rest=rest)
                        wanted = tuple(tuple(rest * one % prime for one in row) for row in table)
                        self.assertIs(type(got), Room)
                        self.same(got.rows(), wanted)
                        self.same(got.prime, prime)

    def test_kinds(self):
        for prime in PRIMES:
            for size in SIZES:
                for kind in plain_kinds(size):
                    room = mixed_room(plain_by(prime, kind), size)
                    for rest in range(prime):
                        _, rank, sign = kind
                        wanted = (size, rank, sign * reckon.sign(prime, rest) ** rank) if rest else (size, 0, 1)
                        self.same(kind_of(scaled(room, rest)), wanted)

    def test_worths_are_multiplied(self):
        for prime in PRIMES:
            numbers = Numbers(prime)
            room = Room(prime, numbers.symmetric(prime, 4))
            for rest in range(prime):
                row = numbers.row(prime, 4)
                self.assertEqual(scaled(room, rest).worth(row), room.worth(row) * rest % prime)


class TakenOff(Case):

    def wanted(self, kind, less):
        """The kind of what is left, by [85]: the one beside which the second one has the kind of the first."""
        size, rank, sign = kind
        left = (size - less[0], rank - less[1], sign * less[2])
        if left[0] < 0 or left[1] < 0 or left[1] > left[0] or left[1] == 0 and left[2] == -1:
            return None
        return left

    def check(self, room, other, kind, less):
        got, wanted = taken_off(room, other), self.wanted(kind, less)
        if wanted is None:
            self.assertIsNone(got)
        else:
            self.assertEqual(got, plain_by(room.prime, wanted))
            self.assertEqual(got, plain_room(got))
            self.assertIs(alike(beside(got, other), room), True)

    def test_all_pairs_of_kinds(self):
        for prime in PRIMES:
            most = 5 if prime < 6 else 3
            all_kinds = [kind for size in range(most) for kind in plain_kinds(size)]
            for kind in all_kinds:
                for less in all_kinds:
                    self.check(plain_by(prime, kind), plain_by(prime, less), kind, less)

    def test_none_but_one_by_trying_all_plain_rooms(self):
        for prime in (3, 5):
            all_kinds = [kind for size in range(4) for kind in plain_kinds(size)]
            for kind in all_kinds:
                for less in all_kinds:
                    room, other = plain_by(prime, kind), plain_by(prime, less)
                    fits = [one for one in map(lambda one: plain_by(prime, one), all_kinds)
                            if one.size + other.size == room.size and kind_of(beside(one, other)) == kind]
                    self.assertLessEqual(len(fits), 1)
                    self.assertEqual(taken_off(room, other), fits[0] if fits else None)

    def test_drawn_rooms(self):
        for prime in PRIMES:
            for size in SIZES:
                for seed, kind in enumerate(plain_kinds(size)):
                    room = mixed_room(plain_by(prime, kind), seed)
                    for more in range(7):
                        for at, less in enumerate(plain_kinds(more)):
                            if (seed + at + size) % 4 == 0:
                                self.check(room, mixed_room(plain_by(prime, less), at), kind, less)

    def test_what_was_put_beside_is_told_again(self):
        for prime in PRIMES:
            for size in range(4):
                for kind in plain_kinds(size):
                    for seed, less in enumerate(plain_kinds(3)):
                        left, other = plain_by(prime, kind), mixed_room(plain_by(prime, less), seed)
                        room = mixed_room(beside(left, other), seed + 1)
                        self.assertEqual(self.told(taken_off, room=room, other=other), left)
                        self.assertEqual(taken_off(room, room), Room(prime, ()))

    def test_some_rooms(self):
        self.same(taken_off(Room(3, unit(3)), Room(3, unit(2))), Room(3, ((1,),)))
        self.same(taken_off(Room(3, unit(2)), Room(3, ((0, 1), (1, 0)))), None)
        self.same(taken_off(Room(5, unit(2)), Room(5, ((0, 1), (1, 0)))), Room(5, ()))
        self.same(taken_off(Room(3, ((0,),)), Room(3, ((1,),))), None)
        self.same(taken_off(Room(3, ((1,),)), Room(3, ((0,),))), None)
        self.same(taken_off(Room(3, ((1, 0), (0, 0))), Room(3, ((2,),))), None)
        self.same(taken_off(Room(7, ()), Room(7, ((0,),))), None)


class Refused(Case):

    def test_room_and_other(self):
        good = Room(3, unit(2))
        for value in no_rooms(3):
            for function in (beside, taken_off):
                for other in (good, None, value):
                    self.refused(InvalidRoom, value, function, value, other)
                    self.refused(InvalidRoom, value, function, other=other, room=value)
                # The sizes would be too great, the primes unlike.
                self.refused(InvalidRoom, value, function, Room(5, unit(6)), value)
                self.refused(InvalidRoom, value, function, other=value, room=good)
            for rest in (1, None):
                self.refused(InvalidRoom, value, scaled, value, rest)
                self.refused(InvalidRoom, value, scaled, rest=rest, room=value)

    def test_rest(self):
        for prime in PRIMES:
            for size in SIZES:
                for value in no_rests(prime):
                    self.refused(InvalidRest, value, scaled, Room(prime, unit(size)), value)
                    self.refused(InvalidRest, value, scaled, rest=value, room=Room(prime, unit(size)))


if __name__ == "__main__":
    unittest.main()
