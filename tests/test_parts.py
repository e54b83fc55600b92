"""Parts told, own rooms, still parts, sums, meetings, parts beside."""

import unittest

from restkeepers.errors import InvalidPart, InvalidRoom, InvalidRows
from restkeepers.parts import beside_part, is_part, meeting, own_room, part_of, still_in, sum_of
from restkeepers.rooms import Room
from tests import listing, reckon
from tests.cases import Case
from tests.listing import no_parts, some_part, told_part, tuples
from tests.reckon import NO_KIND, PRIMES, Numbers, all_rows, no_rooms, no_row_lists, room_samples, spanned, unit

SIZES = range(7)


def rooms(prime, size):
    return [Room(prime, table) for table in room_samples(prime, size)]


def forms(part):
    """The same part, as lists and tuples."""
    return [part, tuple(part), [list(row) for row in part], tuples(part), tuple(list(row) for row in part)]


class PartCase(Case):

    def told_rows(self, function, /, **named):
        """What the call returns: a list of tuples in steps, new each time."""
        got = self.told(function, **named)
        self.assertTrue(isinstance(got, list) and reckon.plain_kind(tuple(got)), repr(got))
        self.assertTrue(reckon.in_steps(got), repr(got))
        function(**named).append("more")
        function(**named).clear()
        self.same(function(**named), got)
        return got


class Parts(PartCase):

    def test_small_lists_against_all_that_they_stand_for(self):
        # By the words alone: what is in steps is the one list of those that span the same.
        for prime, size in [(3, 1), (3, 2), (5, 1), (5, 2)]:
            room, parts = Room(prime, unit(size)), listing.parts(prime, size)
            for many in range(size + 1):
                for rows in reckon.product(all_rows(prime, size), repeat=many):
                    self.judged(list(rows) in parts, rows, is_part, room, rows)
                    self.judged(list(rows) in parts, rows, is_part, room, [list(row) for row in rows])

    def test_all_parts(self):
        for prime, size in [(3, 0), (3, 3), (3, 4), (5, 3), (13, 2)]:
            room = Room(prime, [[0] * size] * size)
            for part in listing.parts(prime, size):
                for value in forms(part):
                    self.judged(True, value, is_part, room, value)
                self.same(part_of(room, part), part)

    def test_all_sizes(self):
        for prime in PRIMES:
            for size in SIZES:
                numbers = Numbers(prime + size)
                for many in range(size + 1):
                    part = some_part(numbers, prime, size, many)
                    for value in forms(part):
                        self.assertIs(self.told(is_part, room=Room(prime, unit(size)), value=value), True)
                    for at in range(many):
                        for place in range(size):
                            other = [list(row) for row in part]
                            other[at][place] = (other[at][place] + 1) % prime
                            self.judged(reckon.in_steps(other), other, is_part, Room(prime, unit(size)), other)

    def test_values_of_any_kind(self):
        for prime in PRIMES:
            for size in SIZES:
                room = Room(prime, unit(size))
                self.judged(True, [], is_part, room, [])
                self.judged(True, (), is_part, value=(), room=room)
                self.judged(True, unit(size), is_part, room, unit(size))
                for value in no_parts(prime, size):
                    self.judged(False, value, is_part, room, value)

    def test_true_and_false_are_no_rests(self):
        room = Room(3, unit(2))
        for value in [[[1, 0]], [(1, 0), (0, 1)], ((0, 1),)]:
            self.judged(True, value, is_part, room, value)
        for value in [[[True, 0]], [[1, False]], [(1, False), (0, 1)], [(1, 0), (0, True)], ((False, 1),), [True, False],
                      [[True, False]]]:
            self.judged(False, value, is_part, room, value)


class PartsOf(PartCase):

    def check(self, room, rows, wanted):
        self.same(self.told_rows(part_of, room=room, rows=rows), wanted)
        self.same(part_of(room, tuples(rows)), wanted)

    def test_against_all_that_the_rows_stand_for(self):
        for prime, most in [(3, 4), (5, 3), (7, 2), (11, 2), (13, 2)]:
            for size in range(most + 1):
                numbers = Numbers(size)
                for many in (0, 1, 2, 3, 5):
                    rows = numbers.rows(prime, size, many)
                    self.check(Room(prime, unit(size)), rows, told_part(prime, size, rows))

    def test_rows_mixed_and_in_another_sequence(self):
        for prime in PRIMES:
            for size in SIZES:
                numbers, room = Numbers(size + prime), Room(prime, [[0] * size] * size)
                for many in range(size + 1):
                    part = some_part(numbers, prime, size, many)
                    self.check(room, part[::-1], part)
                    self.check(room, part + part, part)
                    self.check(room, [[0] * size] + part + [[0] * size], part)
                    self.check(room, [[(prime - 1) * rest % prime for rest in row] for row in part], part)
                    rows = reckon.spanning(numbers, prime, size, part, 3)
                    self.check(room, rows, part)
                    self.check(room, (rows * 40)[:40] if many else [[0] * size] * 40, part)

    def test_none_and_all(self):
        for prime in PRIMES:
            for size in SIZES:
                room = Room(prime, unit(size))
                for rows in [[], (), [[0] * size], [[0] * size] * 40]:
                    self.check(room, rows, [])
                self.check(room, unit(size), list(unit(size)))
                self.check(room, Numbers(3).undone(prime, size), list(unit(size)))

    def test_it_does_not_hang_on_the_table(self):
        rows = [[1, 2, 3], [2, 4, 0]]
        for table in room_samples(5, 3):
            self.check(Room(5, table), rows, [(1, 2, 0), (0, 0, 1)])


class OwnRooms(PartCase):

    def test_betweens_of_the_rows(self):
        for prime in PRIMES:
            for size in SIZES:
                numbers = Numbers(prime - size + 9)
                for room in rooms(prime, size):
                    for many in range(size + 1):
                        part = some_part(numbers, prime, size, many)
                        got = self.told(own_room, room=room, part=part)
                        self.assertIs(type(got), Room)
                        self.same([got.prime, got.size], [prime, many])
                        self.same(got.rows(), listing.among(prime, room.rows(), part))
                        self.assertEqual(own_room(room, tuples(part)), got)

    def test_the_empty_part_and_the_whole_room(self):
        for prime in PRIMES:
            for size in SIZES:
                for room in rooms(prime, size):
                    self.assertEqual(own_room(room, []), Room(prime, []))
                    self.assertEqual(own_room(room, unit(size)), room)

    def test_still_there_and_not_in_the_whole(self):
        for prime in PRIMES:
            room = Room(prime, [[0, 1], [1, 0]])
            self.assertEqual(own_room(room, [(1, 0)]), Room(prime, [[0]]))
            self.same(still_in(room, [(1, 0)]), [])
            self.same(own_room(room, [(1, 0)]).still(), [(1,)])


class StillParts(PartCase):

    def test_against_all_rows(self):
        for prime, table in listing.small_rooms():
            room, size = Room(prime, table), len(table)
            still = {row for row in all_rows(prime, size) if listing.is_still(prime, table, row)}
            for part in listing.parts(prime, size):
                got = still_in(room, part)
                self.assertTrue(reckon.in_steps(got))
                self.assertEqual(spanned(prime, size, got), spanned(prime, size, part) & still)

    def test_all_sizes(self):
        for prime in PRIMES:
            for size in SIZES:
                numbers = Numbers(2 * prime + size)
                for room in rooms(prime, size):
                    still = room.still()
                    self.same(self.told_rows(still_in, room=room, part=list(unit(size))), still)
                    self.same(self.told_rows(still_in, room=room, part=still), still)
                    self.same(self.told_rows(still_in, room=room, part=[]), [])
                    for many in range(size + 1):
                        part = some_part(numbers, prime, size, many)
                        got = self.told_rows(still_in, room=room, part=tuples(part))
                        self.assertTrue(all(listing.is_still(prime, room.rows(), row) for row in got))
                        self.same(got, meeting(room, part, still))

    def test_in_rooms_without_and_with_still_rows_alone(self):
        for prime in PRIMES:
            for size in SIZES:
                part = some_part(Numbers(size), prime, size, size // 2)
                self.same(still_in(Room(prime, unit(size)), part), [])
                self.same(still_in(Room(prime, [[0] * size] * size), part), part)


class SumsAndMeetings(PartCase):

    def check(self, room, part, other):
        made = self.told_rows(sum_of, room=room, part=part, other=other)
        met = self.told_rows(meeting, room=room, part=part, other=other)
        self.assertEqual(len(made) + len(met), len(part) + len(other))
        self.same([sum_of(room, other, part), meeting(room, other, part)], [made, met])
        return made, met

    def test_against_all_rows(self):
        for prime, size, step in [(3, 0, 1), (3, 1, 1), (3, 2, 1), (3, 3, 1), (5, 2, 1), (5, 3, 5), (7, 2, 3), (13, 2, 7)]:
            parts, room = listing.parts(prime, size), Room(prime, unit(size))
            stands = [spanned(prime, size, part) for part in parts]
            for part, found in list(zip(parts, stands)):
                for other, beside in list(zip(parts, stands))[::step]:
                    made, met = sum_of(room, part, other), meeting(room, part, other)
                    self.assertTrue(reckon.in_steps(made) and reckon.in_steps(met))
                    self.assertEqual(spanned(prime, size, met), found & beside)
                    self.same(made, told_part(prime, size, part + other))
                    self.assertEqual(len(made) + len(met), len(part) + len(other))

    def test_all_sizes(self):
        for prime in PRIMES:
            for size in SIZES:
                numbers, room = Numbers(size), Room(prime, Numbers(prime).symmetric(prime, size))
                for many in range(size + 1):
                    part = some_part(numbers, prime, size, many)
                    for more in range(0, size + 1, 2):
                        other = some_part(numbers, prime, size, more)
                        made, met = self.check(room, part, other)
                        self.same(part_of(room, part + other), made)
                        for row in met:
                            self.same([part_of(room, part + [row]), part_of(room, other + [row])], [part, other])

    def test_parts_within_one_another(self):
        for prime in PRIMES:
            for size in SIZES:
                numbers, room = Numbers(7), Room(prime, [[0] * size] * size)
                for many in range(size + 1):
                    part = some_part(numbers, prime, size, many)
                    within = part_of(room, part[1:] + [reckon.mixed(prime, size, [1, 0], part[:1] * 2)] * (many % 2))
                    self.same(self.check(room, part, part), (part, part))
                    self.same(self.check(room, part, tuples(within)), (part, within))
                    self.same(self.check(room, part, []), (part, []))
                    self.same(self.check(room, list(unit(size)), part), (list(unit(size)), part))

    def test_planes_meet(self):
        for prime in PRIMES:
            room = Room(prime, unit(4))
            part = [(1, 0, 0, 2), (0, 1, 0, 2)]
            self.same(meeting(room, part, [(1, 1, 0, 0), (0, 0, 1, 0)]), [])
            self.same(meeting(room, part, [(1, 1, 0, 4 % prime), (0, 0, 1, 0)]), [(1, 1, 0, 4 % prime)])


class Beside(PartCase):

    def check(self, room, part):
        got = self.told_rows(beside_part, room=room, part=part)
        self.assertIs(is_part(room, got), True)
        self.same(meeting(room, part, got), [])
        self.same(sum_of(room, part, got), list(unit(room.size)))
        self.assertEqual(len(part) + len(got), room.size)

    def test_all_parts(self):
        for prime, size in [(3, 0), (3, 1), (3, 2), (3, 3), (5, 2), (5, 3), (7, 2)]:
            room = Room(prime, [[0] * size] * size)
            for part in listing.parts(prime, size):
                self.check(room, part)
                met = spanned(prime, size, part) & spanned(prime, size, beside_part(room, part))
                self.assertEqual(met, {(0,) * size})

    def test_all_sizes(self):
        for prime in PRIMES:
            for size in SIZES:
                for room in rooms(prime, size)[::3]:
                    self.check(room, [])
                    self.check(room, unit(size))
                    self.check(room, room.still())
                    for many in range(size + 1):
                        self.check(room, some_part(Numbers(many), prime, size, many))
                self.same(beside_part(room, ()), list(unit(size)))
                self.same(beside_part(room, unit(size)), [])


class Refused(Case):

    def test_room(self):
        for value in no_rooms(3):
            self.refused(InvalidRoom, value, is_part, value, [])
            self.refused(InvalidRoom, value, is_part, value=None, room=value)
            for one in [[], None]:
                self.refused(InvalidRoom, value, part_of, value, one)
                self.refused(InvalidRoom, value, part_of, rows=one, room=value)
                for function in (own_room, still_in, beside_part):
                    self.refused(InvalidRoom, value, function, value, one)
                    self.refused(InvalidRoom, value, function, part=one, room=value)
                for function in (sum_of, meeting):
                    self.refused(InvalidRoom, value, function, value, one, None)
                    self.refused(InvalidRoom, value, function, other=one, part=None, room=value)

    def test_rows(self):
        for prime in (3, 13):
            for size in SIZES:
                room = Room(prime, unit(size))
                for value in no_row_lists(prime, size):
                    self.refused(InvalidRows, value, part_of, room, value)
                    self.refused(InvalidRows, value, part_of, rows=value, room=room)

    def test_parts(self):
        for prime in (3, 7):
            for size in SIZES:
                room = Room(prime, unit(size))
                for value in no_parts(prime, size):
                    for function in (own_room, still_in, beside_part):
                        self.refused(InvalidPart, value, function, room, value)
                    for function in (sum_of, meeting):
                        self.refused(InvalidPart, value, function, room, value, None)
                        self.refused(InvalidPart, value, function, room, [], value)

    def test_parts_by_names(self):
        room = Room(5, unit(2))
        for value in NO_KIND + [[[2, 0]], [[0, 1], [1, 0]], [[1, 5]], [[1, True]]]:
            for function in (own_room, still_in, beside_part):
                self.refused(InvalidPart, value, function, part=value, room=room)
            for function in (sum_of, meeting):
                self.refused(InvalidPart, value, function, other=[[3, 0]], part=value, room=room)
                self.refused(InvalidPart, value, function, other=value, part=[[1, 0]], room=room)


if __name__ == "__main__":
    unittest.main()
