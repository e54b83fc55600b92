"""Leads, keepers, bends, still rows, right angles."""

import unittest

from restkeepers.errors import InvalidRoom, InvalidRow, InvalidRows, InvalidTable
from restkeepers.keeping import bend, is_bend, is_keeper, is_lead, is_still, right_angles
from restkeepers.rooms import Room
from restkeepers.steps import rank
from restkeepers.tables import times, undone
from tests import reckon
from tests.cases import Case
from tests.reckon import (NO_KIND, PRIMES, Numbers, all_rows, no_rooms, no_row_lists, no_rows, no_tables,
                          room_samples, unit)

SIZES = range(7)
# Values that are no tuple of two positions of tables of any size.
NO_PAIRS = NO_KIND + [0, 1, (), (0,), (0, 0, 0), [0, 0], [0, 1], ((0, 1),), ("0", "0"), (0, "0"), (None, 0), (0, None),
                      (-1, 0), (0, -1), (-1, -1), (0, 6), (6, 6), (0, 10 ** 29), ([0], [0]), ((0, 0), (0, 0)),
                      (True, True), (0, True), (False, 0), (0, False), (False, False), {0: 0, 1: 1}, "00"]


def tuples(rows):
    return tuple(tuple(row) for row in rows)


def leads(prime, first, second, value):
    """Whether the value, a table, leads the one room's table to the other one's, by the words of the document."""
    size = len(first)
    return reckon.determinant(prime, value) != 0 and reckon.led_room(prime, second, value) == tuples(first) \
        and len(second) == size


def keeper_of(room, seed):
    """A keeper of the room that looks mixed: bits of rows at right angles are turned about."""
    prime, size = room.prime, room.size
    found, numbers = unit(size), Numbers(seed)
    for _ in range(4):
        row = numbers.row(prime, size)
        worth = room.worth(row)
        if worth != 0:
            # The mirror of the row: it keeps what is at right angles to it, and turns it to its negative.
            by = [2 * room.between(other, row) * pow(worth, -1, prime) for other in unit(size)]
            mirror = [[(a - much * b) % prime for a, b in zip(other, row)] for other, much in zip(unit(size), by)]
            found = times(prime, found, mirror)
    return found


class Leads(Case):

    def test_against_all_tables(self):
        for prime, tables in [(3, [[[1, 0], [0, 1]], [[2, 0], [0, 2]], [[1, 1], [1, 1]], [[0, 0], [0, 0]], [[1, 0], [0, 0]],
                                   [[0, 1], [1, 0]], [[1, 0], [0, 2]]]),
                              (5, [[[1, 0], [0, 1]], [[0, 1], [1, 0]], [[2, 0], [0, 0]]])]:
            for first in tables:
                for second in tables:
                    room, other = Room(prime, first), Room(prime, second)
                    for a, b, c, d in all_rows(prime, 4):
                        value = ((a, b), (c, d))
                        wanted = leads(prime, first, second, value)
                        self.judged(wanted, value, is_lead, room, other, value)
                        if room == other:
                            self.judged(wanted, value, is_keeper, room, value)

    def test_each_row_is_led_to_one_of_the_same_worth(self):
        room, other = Room(3, [[1, 0], [0, 1]]), Room(3, [[2, 0], [0, 2]])
        for a, b, c, d in all_rows(3, 4):
            worths = all(room.worth(row) == other.worth(reckon.mixed(3, 2, row, [(a, b), (c, d)]))
                         for row in all_rows(3, 2))
            self.judged(worths and (a * d - b * c) % 3 != 0, (a, b, c, d), is_lead, room, other, [[a, b], [c, d]])

    def test_larger_rooms(self):
        for prime in PRIMES:
            for size in SIZES:
                for table in room_samples(prime, size):
                    by = Numbers(prime).undone(prime, size)
                    other = Room(prime, table)
                    room = other.led(by)
                    for value in [by, tuples(by), tuple(by), [tuple(row) for row in by]]:
                        self.judged(True, value, is_lead, room, other, value)
                    self.assertIs(self.told(is_lead, room=room, other=other, value=by), True)
                    for i in range(size):
                        turned = [list(row) for row in by]
                        turned[i][size - 1 - i] = (turned[i][size - 1 - i] + 1) % prime
                        wanted = leads(prime, room.rows(), other.rows(), turned)
                        self.judged(wanted, turned, is_lead, room, other, turned)

    def test_back_and_on(self):
        for prime in PRIMES:
            for size in SIZES:
                for table in room_samples(prime, size):
                    first, second = Numbers(2).undone(prime, size), Numbers(3).undone(prime, size)
                    last = Room(prime, table)
                    middle = last.led(second)
                    room = middle.led(first)
                    self.assertIs(is_lead(room, last, times(prime, first, second)), True)
                    self.assertIs(is_lead(middle, room, undone(prime, first)), True)
                    self.assertIs(is_lead(last, room, undone(prime, times(prime, first, second))), True)

    def test_a_lead_has_a_way(self):
        room, other = Room(3, [[1, 0], [0, 0]]), Room(3, [[0, 0], [0, 1]])
        turned = Room(5, [[1, 2], [2, 0]])
        self.assertIs(is_lead(room, other, [[0, 1], [1, 0]]), True)
        self.assertIs(is_lead(room, other, [[1, 0], [0, 1]]), False)
        by = [[1, 1], [0, 2]]
        self.assertIs(is_lead(turned.led(by), turned, by), True)
        self.assertIs(is_lead(turned, turned.led(by), by), False)

    def test_tables_that_are_not_undone(self):
        flat = Room(3, [[1, 1], [1, 1]])
        for value in [[[0, 1], [0, 1]], [[1, 0], [1, 0]], ((0, 1), (1, 0))]:
            self.assertEqual(flat.led(value), flat)
            self.judged(value == ((0, 1), (1, 0)), value, is_keeper, flat, value)
            self.judged(value == ((0, 1), (1, 0)), value, is_lead, flat, flat, value)
        for size in range(1, 7):
            still = Room(7, [[0] * size] * size)
            self.judged(False, size, is_keeper, still, [[0] * size] * size)
            self.judged(True, size, is_keeper, still, Numbers(size).undone(7, size))

    def test_unlike_primes_and_sizes(self):
        for prime in PRIMES:
            for size in SIZES:
                for value in [unit(size), [], None, [[1]], "table"]:
                    for other in PRIMES:
                        if other != prime:
                            self.judged(False, value, is_lead, Room(prime, unit(size)), Room(other, unit(size)), value)
                    for other in SIZES:
                        if other != size:
                            self.judged(False, value, is_lead, Room(prime, unit(size)), Room(prime, unit(other)), value)
                            self.judged(False, value, is_lead, Room(prime, unit(size)), Room(prime, unit(other)),
                                        unit(other))

    def test_values_of_any_kind(self):
        for prime in PRIMES:
            for size in SIZES:
                room, still = Room(prime, unit(size)), Room(prime, [[0] * size] * size)
                for value in no_tables(prime, size):
                    for one in (room, still):
                        self.judged(False, value, is_keeper, one, value)
                        self.judged(False, value, is_lead, one, one, value)
                        self.judged(False, value, is_lead, room=one, other=one, value=value)
                for wrong in (True, "1", 1 + prime):
                    value = [[wrong if rest == 1 else 0 for rest in row] for row in unit(size)]
                    self.judged(size == 0, value, is_keeper, room, value)
        self.judged(False, None, is_keeper, Room(3, [[1]]), [[True]])
        self.judged(False, None, is_keeper, Room(3, [[1, 0], [0, 1]]), [[1, False], [0, 1]])


class Keepers(Case):

    def test_how_many(self):
        for table, wanted in [([[1, 0], [0, 1]], 8), ([[1, 0], [0, 2]], 4), ([[1, 0], [0, 0]], 12), ([[0, 0], [0, 0]], 48)]:
            room = Room(3, table)
            found = [is_keeper(room, [[a, b], [c, d]]) for a, b, c, d in all_rows(3, 4)]
            self.assertEqual(found.count(True), wanted)

    def test_products_and_keepers_undone(self):
        for prime in PRIMES:
            for size in SIZES:
                for table in room_samples(prime, size):
                    room = Room(prime, table)
                    first, second = keeper_of(room, 5), keeper_of(room, 6)
                    for value in [unit(size), first, second, times(prime, first, second), undone(prime, first)]:
                        self.judged(True, value, is_keeper, room, value)
                        self.judged(True, value, is_keeper, value=value, room=room)
                        self.assertIsNone(bend(room, value))

    def test_without_still_rows_what_keeps_betweens_is_undone(self):
        for table in [[[1, 0], [0, 1]], [[0, 1], [1, 0]], [[2, 1], [1, 1]]]:
            room = Room(3, table)
            for a, b, c, d in all_rows(3, 4):
                value = [[a, b], [c, d]]
                self.judged(bend(room, value) is None, value, is_keeper, room, value)


class Bends(Case):

    def bends(self, room, table):
        """All of them, in their sequence."""
        pairs = [(i, j) for i in range(room.size) for j in range(i, room.size)]
        return [(i, j) for i, j in pairs
                if reckon.between(room.prime, room.rows(), table[i], table[j]) != room.rows()[i][j]]

    def check(self, room, table):
        wanted = self.bends(room, table)
        self.same(self.told(bend, room=room, table=table), wanted[0] if wanted else None)
        self.same(bend(room, tuples(table)), wanted[0] if wanted else None)
        for i in range(-1, room.size + 1):
            for j in range(-1, room.size + 1):
                self.judged((i, j) in wanted, (i, j), is_bend, room, table, (i, j))
                self.judged(False, [i, j], is_bend, room, table, [i, j])
        for value in NO_PAIRS:
            self.judged(False, value, is_bend, room, table, value)

    def test_small_rooms(self):
        for table in reckon.symmetric_tables(3, 2):
            for a, b, c, d in list(all_rows(3, 4))[::5]:
                self.check(Room(3, table), [[a, b], [c, d]])

    def test_all_sizes(self):
        for prime in PRIMES:
            for size in SIZES:
                for table in room_samples(prime, size)[-4:]:
                    room = Room(prime, table)
                    self.check(room, Numbers(size).table(prime, size))
                    self.check(room, keeper_of(room, 9))

    def test_one_place_alone(self):
        for size in range(1, 7):
            for at in range(size):
                for place in range(size):
                    # A room in which just two rows of the idle table see one another.
                    table = [[1 if {i, j} == {at, place} else 0 for j in range(size)] for i in range(size)]
                    zero = [[0] * size for _ in range(size)]
                    self.same(bend(Room(5, table), zero), (min(at, place), max(at, place)))
                    self.same(bend(Room(5, table), unit(size)), None)
                    self.check(Room(5, table), zero)

    def test_true_and_false_are_no_positions(self):
        room, table = Room(3, [[1, 1], [1, 1]]), [[0, 0], [0, 0]]
        for value in [(0, 0), (0, 1), (1, 1)]:
            self.assertIs(self.told(is_bend, room=room, table=table, value=value), True)
        for value in [(0, True), (False, 0), (True, True), (False, 1), (False, False), (True, 1), (1, True), (1, 0)]:
            self.judged(False, value, is_bend, room, table, value)


class StillRows(Case):

    def test_against_all_rows(self):
        for prime, most in [(3, 4), (5, 3), (7, 2), (11, 2), (13, 2)]:
            for size in range(most + 1):
                for table in room_samples(prime, size):
                    room = Room(prime, table)
                    for row in all_rows(prime, size):
                        wanted = all(reckon.between(prime, table, row, other) == 0 for other in unit(size))
                        self.judged(wanted, row, is_still, room, row)

    def test_told_steps_of_still_rows(self):
        for prime in PRIMES:
            for size in SIZES:
                for table in room_samples(prime, size):
                    room = Room(prime, table)
                    for row in room.still() + [[0] * size]:
                        self.assertIs(self.told(is_still, room=room, row=row), True)
                        self.assertIs(is_still(room, list(row)), True)
                    for row in unit(size):
                        self.judged(not any(table[row.index(1)]), row, is_still, room, row)


class RightAngles(Case):

    def test_against_all_rows(self):
        for prime, most in [(3, 4), (5, 3), (7, 2), (11, 2), (13, 2)]:
            for size in range(most + 1):
                numbers = Numbers(prime + size)
                for table in room_samples(prime, size):
                    for many in (0, 1, 2, 4):
                        rows = numbers.rows(prime, size, many)
                        got = self.told(right_angles, room=Room(prime, table), rows=rows)
                        self.assertTrue(isinstance(got, list) and reckon.plain_kind(tuple(got)))
                        self.assertTrue(reckon.in_steps(got))
                        wanted = {row for row in all_rows(prime, size)
                                  if all(reckon.between(prime, table, row, other) == 0 for other in rows)}
                        self.assertEqual(reckon.spanned(prime, size, got), wanted)

    def test_how_many(self):
        for prime in PRIMES:
            for size in SIZES:
                for table in room_samples(prime, size):
                    room = Room(prime, table)
                    for many in range(size + 1):
                        rows = Numbers(many).rows(prime, size, many)
                        got = right_angles(room, tuples(rows))
                        seen = [reckon.mixed(prime, size, row, table) for row in rows]
                        self.assertTrue(reckon.in_steps(got))
                        self.assertEqual(len(got), size - rank(prime, size, seen))
                        for row in got:
                            for other in rows:
                                self.assertEqual(reckon.between(prime, table, row, other), 0)
                        if room.rank == size:
                            self.assertEqual(len(got), size - rank(prime, size, rows))

    def test_nothing_and_all(self):
        for prime in PRIMES:
            for size in SIZES:
                for table in room_samples(prime, size):
                    room = Room(prime, table)
                    for rows in [[], (), [[0] * size] * 40, room.still()]:
                        self.same(right_angles(room, rows), list(unit(size)))
                    self.same(right_angles(room, unit(size)), room.still())
                    self.same(right_angles(room, [[1] * size] * 40), right_angles(room, [[1] * size]))

    def test_what_is_returned_is_new(self):
        room, rows = Room(3, [[1, 0], [0, 1]]), [(1, 1)]
        right_angles(room, rows).clear()
        self.same(right_angles(room, rows), [(1, 2)])


class Refused(Case):

    def test_room(self):
        for prime in (3, 7):
            room = Room(prime, [[1]])
            for value in no_rooms(prime):
                for other in [None, room]:
                    self.refused(InvalidRoom, value, is_lead, value, other, None)
                    self.refused(InvalidRoom, value, is_lead, value=[[1]], other=other, room=value)
                self.refused(InvalidRoom, value, is_lead, room, value, [[1]])
                self.refused(InvalidRoom, value, is_lead, other=value, value=None, room=room)
                self.refused(InvalidRoom, value, is_keeper, value, [[1]])
                self.refused(InvalidRoom, value, is_keeper, value=None, room=value)
                for one in [None, [[1]]]:
                    self.refused(InvalidRoom, value, bend, value, one)
                    self.refused(InvalidRoom, value, bend, table=one, room=value)
                    self.refused(InvalidRoom, value, is_bend, value, one, (0, 0))
                    self.refused(InvalidRoom, value, is_bend, value=None, table=one, room=value)
                    self.refused(InvalidRoom, value, is_still, value, one)
                    self.refused(InvalidRoom, value, is_still, row=one, room=value)
                    self.refused(InvalidRoom, value, right_angles, value, one)
                    self.refused(InvalidRoom, value, right_angles, rows=one, room=value)

    def test_table(self):
        for prime in (3, 13):
            for size in SIZES:
                room = Room(prime, unit(size))
                for value in no_tables(prime, size):
                    self.refused(InvalidTable, value, bend, room, value)
                    self.refused(InvalidTable, value, bend, table=value, room=room)
                    for one in [None, (0, 0)]:
                        self.refused(InvalidTable, value, is_bend, room, value, one)
                        self.refused(InvalidTable, value, is_bend, value=one, table=value, room=room)

    def test_row_and_rows(self):
        for prime in (3, 13):
            for size in SIZES:
                room = Room(prime, unit(size))
                for value in no_rows(prime, size):
                    self.refused(InvalidRow, value, is_still, room, value)
                    self.refused(InvalidRow, value, is_still, row=value, room=room)
                for value in no_row_lists(prime, size):
                    self.refused(InvalidRows, value, right_angles, room, value)
                    self.refused(InvalidRows, value, right_angles, rows=value, room=room)


if __name__ == "__main__":
    unittest.main()
