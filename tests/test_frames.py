"""Frames: whether lists of rows are some, how many there are, one of them, all of them."""

import unittest

from restkeepers.errors import InvalidMates, InvalidRoom, TooMany
from restkeepers.frames import a_frame, frame_count, frames, is_frame
from restkeepers.keeping import is_keeper
from restkeepers.rooms import Room
from tests import listing, reckon
from tests.cases import Case
from tests.listing import is_still, keepers, plain_rooms, small_rooms, tuples
from tests.reckon import (NO_KIND, PRIMES, Numbers, all_rows, between, counted, led_room, mixed, no_mates, no_rooms,
                          no_rows, room_kind, room_samples, symmetric_tables, unit)

SIZES = range(7)


def without_still(prime, table, rows):
    """Whether no sum of multiples of the rows, not all by 0, is still."""
    sums = [mixed(prime, len(table), rests, rows) for rests in all_rows(prime, len(rows)) if any(rests)]
    return not any(is_still(prime, table, row) for row in sums)


def plain_frame(prime, table, mates, value):
    """Whether a value is a frame, by the words of [72]."""
    if type(value) not in (list, tuple) or len(value) != len(mates):
        return False
    for row in value:
        if type(row) not in (list, tuple) or len(row) != len(table):
            return False
        if not all(type(rest) is int and 0 <= rest < prime for rest in row):
            return False
    if listing.among(prime, table, value) != tuples(mates):
        return False
    return without_still(prime, table, value)


def listed_frames(prime, table, mates, ahead=()):
    """All frames, sorted: rows with the wanted betweens, one behind the other."""
    at = len(ahead)
    if at == len(mates):
        return [list(ahead)] if without_still(prime, table, ahead) else []
    found = []
    for row in sorted(all_rows(prime, len(table))):
        if all(between(prime, table, old, row) == rest for old, rest in zip(ahead + (row,), mates[at])):
            found += listed_frames(prime, table, mates, ahead + (row,))
    return found


def squares_of(prime, rank, sign):
    """The squares of a plain room of this rank and sign."""
    odd = next(rest for rest in range(2, prime) if reckon.sign(prime, rest) == -1)
    return [1] * (rank - 1) + [1 if sign == 1 else odd] if rank else []


def number(prime, rank, sign, worth):
    """How many rows of a room without still rows have the worth: one square put to the other."""
    return counted(prime, squares_of(prime, rank, sign))[worth]


def counted_frames(prime, kind, mates_kind):
    """The number of frames by [75], reckoned one by one."""
    (size, rank, sign), (many, ones, of_ones) = kind, mates_kind
    turn, total = reckon.sign(prime, prime - 1), prime ** ((size - rank) * many)
    for square in squares_of(prime, ones, of_ones):
        if rank < 1:
            return 0
        total *= number(prime, rank, sign, square)
        rank, sign = rank - 1, sign * reckon.sign(prime, square)
    for at in range(many - ones):
        if rank - 2 * at < 0:
            return 0
        # Of a rank of 0 there is one sign alone; nothing is left there, whatever it is.
        total *= (number(prime, rank - 2 * at, sign * turn ** at, 0) - 1) * prime ** at
    return total


def there(prime, kind, mates_kind):
    """Whether there is a frame, by [76]."""
    (_, rank, sign), (many, ones, of_ones) = kind, mates_kind
    wanted = ones + 2 * (many - ones)
    return wanted < rank or wanted == rank and sign == of_ones * reckon.sign(prime, prime - 1) ** (many - ones)


def mates_of(prime, size, seed):
    """A symmetric table of each kind of this size, one that looks mixed."""
    by = Numbers(seed).undone(prime, size)
    return [led_room(prime, room.rows(), by) for room in plain_rooms(prime, size)]


class Listed(Case):

    def check(self, room, mates, told=False):
        wanted = listed_frames(room.prime, room.rows(), mates)
        got = self.told(frame_count, room=room, mates=mates) if told else frame_count(room, mates)
        self.same(got, len(wanted))
        if len(wanted) > 400:
            many = self.raised(TooMany, frames, room, mates)
            self.assertEqual((many.what, many.limit), ("frames", 400))
        else:
            self.same(self.told(frames, room=room, mates=mates) if told else frames(room, mates), wanted)
        for frame in wanted[:5] + wanted[-2:]:
            self.judged(True, frame, is_frame, room, mates, frame)
        one = a_frame(room, mates)
        self.assertEqual(one is not None, bool(wanted))
        if one is not None:
            self.assertIn(one, wanted)
            self.assertTrue(type(one) is list and reckon.plain_kind(tuple(one)))

    def test_small_rooms_with_all_mates(self):
        for prime, most in [(3, 2), (5, 1), (7, 1)]:
            for size in range(most + 1):
                for table in symmetric_tables(prime, size):
                    for many in range(3 if prime == 3 else 2):
                        for mates in symmetric_tables(prime, many):
                            self.check(Room(prime, table), mates, told=many < 2)

    def test_small_rooms_with_mates_of_each_kind(self):
        for seed, (prime, table) in enumerate(small_rooms()):
            if prime ** len(table) <= 49:
                for many in range(4):
                    for at, mates in enumerate(mates_of(prime, many, seed)):
                        if many < 3 or at % 2 == seed % 4:
                            self.check(Room(prime, table), mates)
            elif seed % 7 == 0:
                for mates in mates_of(prime, 1, seed) + mates_of(prime, 2, seed)[::2]:
                    self.check(Room(prime, table), mates)

    def test_all_lists_of_rows_of_small_rooms(self):
        for prime, table in [(3, ()), (3, ((0,),)), (5, ((2,),)), (3, unit(2)), (3, ((1, 0), (0, 0))), (5, ((0, 1), (1, 0)))]:
            room, rows = Room(prime, table), all_rows(prime, len(table))
            for mates in [(), ((0,),), ((1,),), ((2,),), unit(2), ((0, 0), (0, 0)), ((0, 1), (1, 0)), ((1, 0), (0, 0))]:
                for value in [[]] + [[row] for row in rows] + [(first, list(second)) for first in rows for second in rows]:
                    self.judged(plain_frame(prime, table, mates, value), value, is_frame, room, mates, value)

    def test_a_rooms_own_table_has_its_keepers(self):
        for prime, table in small_rooms():
            if prime ** len(table) > 49 or room_kind(prime, table)[1] < len(table):
                continue
            wanted = sorted(list(keeper) for keeper in keepers(prime, table))
            self.same(frame_count(Room(prime, table), table), len(wanted))
            if len(wanted) <= 400:
                self.same(frames(Room(prime, table), table), wanted)
        for prime in PRIMES:
            for size in SIZES:
                for room in plain_rooms(prime, size)[-2:]:
                    by = Numbers(size).undone(prime, size)
                    other = Room(prime, led_room(prime, room.rows(), by))
                    self.assertIs(is_keeper(other, a_frame(other, other.rows())), True)
                    self.judged(True, size, is_frame, other, other.rows(), unit(size))


class Counted(Case):

    def test_all_kinds_of_rooms_and_mates(self):
        for prime in PRIMES:
            mates = [room.rows() for size in SIZES for room in plain_rooms(prime, size)]
            kinds = [room_kind(prime, table) for table in mates]
            for table, kind in zip(mates, kinds):
                room = Room(prime, table)
                for at, (other, other_kind) in enumerate(zip(mates, kinds)):
                    if prime < 6 or (at + kind[0]) % 5 == 0:
                        wanted = counted_frames(prime, kind, other_kind)
                        self.same(frame_count(room, other), wanted)
                        self.assertEqual(there(prime, kind, other_kind), wanted != 0)

    def test_along_leads_and_led_mates(self):
        for prime in PRIMES:
            for size in SIZES:
                for seed, plain in enumerate(plain_rooms(prime, size)):
                    numbers = Numbers(seed + 7 * size)
                    table = led_room(prime, plain.rows(), numbers.undone(prime, size))
                    room, kind = Room(prime, table), room_kind(prime, table)
                    for many in SIZES:
                        for at, other in enumerate(plain_rooms(prime, many)):
                            if (at + seed + many + size) % 6:
                                continue
                            mates = led_room(prime, other.rows(), numbers.undone(prime, many))
                            wanted = counted_frames(prime, kind, room_kind(prime, mates))
                            self.same(frame_count(room, mates), wanted)
                            self.same(frame_count(plain, other.rows()), wanted)
                            self.check_one(room, mates, wanted)

    def check_one(self, room, mates, count):
        one = a_frame(room, mates)
        self.assertEqual(one is None, count == 0)
        if one is None:
            return
        self.assertTrue(type(one) is list and reckon.plain_kind(tuple(one)))
        self.same(listing.among(room.prime, room.rows(), one), tuples(mates))
        # No sum of multiples is still: the betweens with the idle table's rows are those of free rows.
        seen = [mixed(room.prime, room.size, row, room.rows()) for row in one]
        self.assertEqual(room_free(room.prime, room.size, seen), len(one))
        self.judged(True, one, is_frame, room, mates, one)
        self.judged(True, one, is_frame, value=tuple(map(list, one)), mates=[list(row) for row in mates], room=room)

    def test_rooms_of_all_sorts(self):
        for prime in PRIMES:
            for size in SIZES:
                for seed, table in enumerate(room_samples(prime, size)):
                    room = Room(prime, table)
                    for many in range(seed % 2, 7, 2):
                        tables = room_samples(prime, many)
                        mates = tables[(seed + size) % len(tables)]
                        wanted = counted_frames(prime, room_kind(prime, table), room_kind(prime, mates))
                        self.same(self.told(frame_count, room=room, mates=mates), wanted)
                        self.check_one(room, mates, wanted)
                        self.same(self.told(a_frame, room=room, mates=mates), a_frame(room, tuples(mates)))

    def test_greater_than_the_room(self):
        for prime in PRIMES:
            for size in SIZES:
                for many in range(size + 1, 7):
                    for room in plain_rooms(prime, size)[::3]:
                        for mates in (unit(many), ((0,) * many,) * many):
                            self.same(frame_count(room, mates), 0)
                            self.same(a_frame(room, mates), None)
                            self.judged(False, many, is_frame, room, mates, [(0,) * size] * many)
                            if prime ** size <= 2500:
                                self.same(frames(room, mates), [])

    def test_no_mates(self):
        for prime in PRIMES:
            for size in SIZES:
                for room in plain_rooms(prime, size):
                    self.same([frame_count(room, ()), a_frame(room, []), is_frame(room, [], ())], [1, [], True])
                    self.judged(False, None, is_frame, room, [], [(0,) * size])
                    if prime ** size <= 2500:
                        self.same(frames(room, []), [[]])

    def test_some_numbers(self):
        ball = Room(3, unit(3))
        self.same([frame_count(ball, [[rest]]) for rest in range(3)], [8, 6, 12])
        self.same(frame_count(ball, unit(3)), 48)
        self.same(frame_count(ball, ((0, 0), (0, 0))), 0)
        self.same(frame_count(ball, ((0, 1), (1, 0))), 24)
        self.same(frame_count(Room(13, ((0,) * 6,) * 6), ((0,),)), 0)
        self.same(frame_count(Room(5, ((0, 1, 0), (1, 0, 0), (0, 0, 0))), ((0, 1), (1, 0))), 200)
        self.same(frame_count(Room(13, unit(6)), ((0,),)), 13 ** 5 + 13 ** 3 - 13 ** 2 - 1)


def room_free(prime, size, rows):
    """How many free rows there are among these, by one row after the other cleared."""
    left, many = [list(row) for row in rows], 0
    for place in range(size):
        at = next((at for at, row in enumerate(left) if row[place]), None)
        if at is not None:
            step, many = left.pop(at), many + 1
            share = pow(step[place], -1, prime)
            left = [[(a - row[place] * share * b) % prime for a, b in zip(row, step)] for row in left]
    return many


class Told(Case):

    def test_sorted_new_and_as_many_as_the_count(self):
        for prime in PRIMES:
            for size in SIZES:
                for seed, table in enumerate(room_samples(prime, size)[::2]):
                    for many in range(4):
                        tables = room_samples(prime, many)
                        mates = tables[seed % len(tables)]
                        room, count = Room(prime, table), frame_count(Room(prime, table), mates)
                        if prime ** size > 2500:
                            got = self.raised(TooMany, frames, room, mates)
                            self.assertEqual((got.what, got.limit), ("rows", 2500))
                        elif count > 400:
                            got = self.raised(TooMany, frames, mates=mates, room=room)
                            self.assertEqual((got.what, got.limit), ("frames", 400))
                        else:
                            self.check(room, mates, count)

    def check(self, room, mates, count):
        got = frames(room, mates)
        self.assertEqual(len(got), count)
        self.assertEqual(got, sorted(got))
        self.assertEqual(len({tuple(frame) for frame in got}), count)
        for frame in got:
            self.assertTrue(type(frame) is list and reckon.plain_kind(tuple(frame)))
            self.assertIs(is_frame(room, mates, frame), True)

    def test_what_is_returned_is_new(self):
        room, mates = Room(3, unit(2)), [[1, 0], [0, 1]]
        got = self.told(frames, room=room, mates=mates)
        self.same(len(got), 8)
        for frame in frames(room, mates):
            frame.append("more")
        frames(room, mates).clear()
        self.same(frames(room, mates), got)
        a_frame(room, mates).clear()
        self.same(len(a_frame(room, mates)), 2)

    def test_the_edge_of_the_limits(self):
        # 8 k of 400 frames are still told; the rows stand ahead of the frames.
        room = Room(5, [[0, 1, 0, 0], [1, 0, 0, 0], [0, 0, 0, 0], [0, 0, 0, 0]])
        self.same([frame_count(room, [[0]]), len(frames(room, [[1]]))], [200, 100])
        room = Room(3, unit(5))
        self.same([frame_count(room, [[rest]]) for rest in range(3)], [80, 90, 72])
        self.assertEqual(len(frames(room, [[1]])), 90)
        room = Room(3, [[0, 1, 0, 0, 0, 0], [1, 0, 0, 0, 0, 0]] + [[0] * 6] * 4)
        self.same([frame_count(room, [[rest]]) for rest in range(3)], [324, 162, 162])
        self.assertEqual(len(frames(room, [[0]])), 324)
        room = Room(7, unit(4))
        self.same([frame_count(room, [[rest]]) for rest in (0, 1)], [384, 336])
        self.assertEqual(len(frames(room, [[0]])), 384)
        room = Room(7, [[0, 1, 0, 0], [1, 0, 0, 0]] + [[0] * 4] * 2)
        self.same(frame_count(room, [[0]]), 588)
        self.assertEqual(self.raised(TooMany, frames, room, [[0]]).what, "frames")
        room = Room(11, unit(4))
        self.assertEqual(self.raised(TooMany, frames, room, []).what, "rows")
        self.assertEqual(self.raised(TooMany, frames, room, unit(6)).what, "rows")


class IsFrame(Case):

    def test_one_thing_otherwise(self):
        for prime in PRIMES:
            for size in range(1, 7):
                for seed, table in enumerate(room_samples(prime, size)[::3]):
                    numbers = Numbers(seed)
                    many = 1 + seed % 2
                    rows = numbers.rows(prime, size, many)
                    mates = listing.among(prime, table, rows)
                    room, still = Room(prime, table), Room(prime, table).still()
                    values = [rows, tuples(rows), rows[::-1], rows[1:], rows + rows[:1], [rows[0]] * many]
                    for at in range(many):
                        def put(row):
                            return rows[:at] + [row] + rows[at + 1:]
                        values += [put([0] * size), put(rows[at] + [0]), put(rows[at][:-1]), put([-1] * size), put(None)]
                        values += [put([a + prime for a in rows[at]]), put([-a % prime for a in rows[at]]), put("01")]
                        values += [put([bool(a) for a in rows[at]]), put(numbers.row(prime, size)), put(rows[at][0])]
                        values += [put([(a + b) % prime for a, b in zip(rows[at], row)]) for row in still[:1]]
                        values += [put(list(row)) for row in still[-1:]]
                    for value in values:
                        self.judged(plain_frame(prime, table, mates, value), value, is_frame, room, mates, value)

    def test_still_sums(self):
        for prime in PRIMES:
            room = Room(prime, [[1, 0, 0], [0, 0, 0], [0, 0, 0]])
            self.judged(False, None, is_frame, room, [[0]], [(0, 1, 0)])
            self.judged(False, None, is_frame, room, [[1, 1], [1, 1]], [(1, 0, 0), (1, 1, 0)])
            self.judged(True, None, is_frame, room, [[1]], [(1, 1, 0)])
            pair = Room(prime, [[0, 1], [1, 0]])
            self.judged(False, None, is_frame, pair, [[0, 0], [0, 0]], [(1, 0), (2, 0)])
            self.judged(False, None, is_frame, pair, [[0]], [(0, 0)])
            self.judged(True, None, is_frame, pair, [[0]], [(0, prime - 1)])

    def test_values_of_any_kind(self):
        for prime in PRIMES:
            for size in SIZES:
                for room in [Room(prime, unit(size)), Room(prime, [[0] * size] * size)]:
                    for mates in [(), ((1,),), ((0, 1), (1, 0)), unit(6)]:
                        for value in NO_KIND + [0, 1, [0], [[]], [[0] * 7], [None] * len(mates), {0: 1}, [[0] * size] * 7]:
                            wanted = plain_frame(prime, room.rows(), mates, value)
                            self.judged(wanted, value, is_frame, room, mates, value)
        for row in no_rows(3, 2):
            self.judged(False, row, is_frame, Room(3, unit(2)), [[1]], [row])
            self.judged(False, row, is_frame, Room(3, unit(2)), unit(2), [(1, 0), row])
        self.judged(False, None, is_frame, Room(3, unit(1)), [[1]], [[True]])
        self.judged(True, None, is_frame, Room(3, unit(1)), [[1]], [[1]])


class Refused(Case):

    def test_room(self):
        for value in no_rooms(3):
            for mates in ([], None):
                self.refused(InvalidRoom, value, is_frame, value, mates, None)
                self.refused(InvalidRoom, value, is_frame, value=None, mates=mates, room=value)
                for function in (frame_count, a_frame, frames):
                    self.refused(InvalidRoom, value, function, value, mates)
                    self.refused(InvalidRoom, value, function, mates=mates, room=value)

    def test_mates(self):
        for prime in PRIMES:
            # TooMany stands behind: the greater rooms have more rows.
            for room in [Room(prime, []), Room(prime, unit(2)), Room(prime, unit(6))]:
                for value in no_mates(prime):
                    self.refused(InvalidMates, value, is_frame, room, value, None)
                    for function in (frame_count, a_frame, frames):
                        self.refused(InvalidMates, value, function, room, value)
                    self.refused(InvalidMates, value, frames, mates=value, room=room)
        self.refused(InvalidMates, [[3]], frame_count, Room(3, []), [[3]])
        self.same(frame_count(Room(5, []), [[3]]), 0)


if __name__ == "__main__":
    unittest.main()
