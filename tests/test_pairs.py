"""Pair counts, pair rows, and sorts of greatest nought parts."""

import unittest

from restkeepers.errors import InvalidPart, InvalidRoom, NoSorts, NotGreatest
from restkeepers.noughts import greatest_nought, is_greatest
from restkeepers.pairs import is_pair_rows, pair_count, pair_rows, same_sort
from restkeepers.parts import part_of
from restkeepers.rooms import Room
from tests import listing, reckon
from tests.cases import Case
from tests.listing import all_rooms, no_parts, pair_total, plain_rooms, tuples
from tests.mapping import led, mixed_keeper
from tests.reckon import NO_KIND, PRIMES, Numbers, all_rows, between, no_rooms, spanned, symmetric_tables, unit

SIZES = range(7)


def is_row_of(room, row):
    return type(row) in (list, tuple) and len(row) == room.size and \
        all(type(rest) is int and 0 <= rest < room.prime for rest in row)


def plain_pair_rows(room, value):
    """Whether a value is pair rows, by the words of [64]."""
    if type(value) is not tuple or len(value) != 3 or not all(type(bit) in (list, tuple) for bit in value):
        return False
    pairs, rest, still = value
    if not all(type(pair) is tuple and len(pair) == 2 for pair in pairs):
        return False
    if not all(is_row_of(room, row) for bit in list(pairs) + [rest, still] for row in bit):
        return False
    if [tuple(row) for row in still] != room.still() or 2 * len(pairs) + len(rest) + len(still) != room.size:
        return False
    rows = [row for pair in pairs for row in pair] + list(rest)
    see = listing.among(room.prime, room.rows(), rows)
    for i in range(len(rows)):
        for j in range(len(rows)):
            partners = i != j and i // 2 == j // 2 and max(i, j) < 2 * len(pairs)
            if partners and see[i][j] != 1:
                return False
            if not partners and see[i][j] != 0 and (i != j or i < 2 * len(pairs)):
                return False
    sums = [(rests, reckon.mixed(room.prime, room.size, rests, rest)) for rests in all_rows(room.prime, len(rest))] \
        if len(rest) < 4 else [((1,), (0,) * room.size)]
    return not any(any(rests) and between(room.prime, room.rows(), row, row) == 0 for rests, row in sums)


def listed_greatest(prime, table):
    """All greatest nought parts."""
    found = [part for part in listing.parts(prime, len(table))
             if not any(map(any, listing.among(prime, table, part)))]
    most = max(map(len, found))
    return [part for part in found if len(part) == most]


class PairCounts(Case):

    def test_by_words(self):
        for room in all_rooms():
            if room.size < 6:
                self.same(self.told(pair_count, room=room), pair_total(room))
        for prime in PRIMES:
            for size in SIZES:
                for seed, room in enumerate(plain_rooms(prime, size)):
                    self.same(pair_count(room), pair_total(room))
                    self.same(pair_count(room.led(Numbers(seed).undone(prime, size))), pair_total(room))

    def test_some_rooms(self):
        for prime, table, wanted in [(3, unit(2), 0), (5, unit(2), 1), (3, unit(3), 1), (3, unit(4), 2), (5, (), 0),
                                     (7, unit(6), 2), (13, unit(6), 3), (3, ((1, 0), (0, 2)), 1), (5, ((0, 0),) * 2, 0),
                                     (5, ((1, 0), (0, 2)), 0), (7, ((3,),), 0), (11, ((0, 4), (4, 0)), 1)]:
            self.same(pair_count(Room(prime, table)), wanted)


class PairRows(Case):

    def check(self, room, told=True):
        got = self.told(pair_rows, room=room) if told else pair_rows(room)
        self.assertTrue(type(got) is tuple and len(got) == 3)
        pairs, rest, still = got
        self.assertTrue(type(pairs) is list and type(rest) is list and type(still) is list)
        self.assertTrue(all(type(pair) is tuple for pair in pairs))
        self.assertTrue(reckon.plain_kind((tuple(pairs), tuple(rest), tuple(still))))
        self.assertEqual(len(pairs), pair_total(room) if room.size < 6 else pair_count(room))
        self.assertEqual(len(rest), room.rank - 2 * len(pairs))
        self.assertIn(len(rest), (0, 1, 2))
        self.same(still, room.still())
        if len(rest) < 2 or room.prime < 8 or told:
            self.assertTrue(plain_pair_rows(room, got))
        rows = [row for pair in pairs for row in pair] + rest + still
        self.assertNotEqual(reckon.determinant(room.prime, rows), 0)
        self.assertIs(is_pair_rows(room, got), True)
        self.assertIs(is_pair_rows(value=(tuple(pairs), tuple(rest), tuple(still)), room=room), True)
        return got

    def test_all_rooms(self):
        for room in all_rooms():
            self.check(room)

    def test_each_plain_room(self):
        for prime in PRIMES:
            for size in SIZES:
                for seed, room in enumerate(plain_rooms(prime, size)):
                    self.check(room, told=False)
                    self.check(room.led(Numbers(seed).undone(prime, size)), told=False)

    def test_small_rooms(self):
        for size in range(3):
            for table in symmetric_tables(3, size):
                self.check(Room(3, table))

    def test_what_is_returned_is_new(self):
        room = Room(5, [[0, 1, 0, 0], [1, 0, 0, 0], [0, 0, 1, 0], [0, 0, 0, 0]])
        got = pair_rows(room)
        for bit in pair_rows(room):
            bit.append("more")
        self.same(pair_rows(room), got)


class IsPairRows(Case):

    def judged_by_words(self, room, value):
        self.judged(plain_pair_rows(room, value), value, is_pair_rows, room, value)

    def others(self, room, value, seed):
        """Values with one thing otherwise."""
        pairs, rest, still = value
        numbers, size = Numbers(seed), room.size
        found = [(pairs[::-1], rest, still), (pairs, rest[::-1], still), (pairs, rest, still[::-1]), list(value),
                 (pairs, still, rest), (rest, pairs, still), (pairs, rest), (pairs, rest, still, []),
                 (pairs[1:], rest, still), (pairs, rest[1:], still), (pairs, rest, still[1:]), (pairs + pairs[:1], rest, still),
                 (pairs, rest + rest[:1], still), (pairs, rest, still + still[:1]), (pairs, rest + still, []),
                 ([list(pair) for pair in pairs], rest, still), ([(pair,) for pair in pairs], rest, still),
                 ([pair + pair[:1] for pair in pairs], rest, still), ([pair[:1] for pair in pairs], rest, still),
                 (tuple(pairs), tuple(rest), tuple(still)), ([tuple(map(list, pair)) for pair in pairs], rest, still),
                 (pairs, rest + [(0,) * size], still), (pairs, [(0,) * size for _ in rest], still)]
        found += [([(second, first) for first, second in pairs], rest, still),
                  ([(first, first) for first, second in pairs], rest, still),
                  (pairs[:-1], rest + [row for pair in pairs[-1:] for row in pair], still),
                  ([tuple(rest)] if len(rest) == 2 else pairs, [], still)]
        for rest_at in range(len(rest)):
            found.append((pairs, rest[:rest_at] + [tuple(2 * one % room.prime for one in rest[rest_at])], still))
            found.append((pairs, [list(row) for row in rest[:rest_at]] + [numbers.row(room.prime, size)], still))
        for at, (first, second) in enumerate(pairs):
            for pair in [(tuple(2 * one % room.prime for one in first), second),
                         (first, tuple(-one % room.prime for one in second)),
                         (tuple((one + two) % room.prime for one, two in zip(first, second)), second),
                         (numbers.row(room.prime, size), second), (first, (0,) * size), (first, None), [first, second],
                         (first, second + (0,)), (True, second), (first, tuple(map(bool, second))),
                         (first, tuple(one + room.prime for one in second))]:
                found.append((pairs[:at] + [pair] + pairs[at + 1:], rest, still))
        if len(pairs) > 1:
            found.append(([(pairs[0][0], pairs[1][1]), (pairs[1][0], pairs[0][1])] + pairs[2:], rest, still))
            found.append(([(pairs[0][0], pairs[0][1]), (pairs[1][1], pairs[1][0])] + pairs[2:], rest, still))
        return found

    def test_one_thing_otherwise(self):
        for seed, room in enumerate(all_rooms()):
            if room.prime < 8 or seed % 3 == 0:
                for value in self.others(room, pair_rows(room), seed):
                    self.judged_by_words(room, value)

    def test_pair_rows_led_by_keepers(self):
        for seed, room in enumerate(all_rooms()[::2]):
            keeper = mixed_keeper(room.prime, room.rows(), seed)
            pairs, rest, still = pair_rows(room)
            value = ([tuple(led(room.prime, pair, keeper)) for pair in pairs], led(room.prime, rest, keeper), still)
            self.assertIs(self.told(is_pair_rows, room=room, value=value), True)

    def test_all_values_of_small_rooms(self):
        for prime, table in [(3, unit(1)), (5, ((0,),)), (3, unit(2)), (3, ((0, 1), (1, 0))), (3, ((1, 0), (0, 0))),
                             (5, unit(2)), (3, ((1, 1), (1, 1))), (3, ((0, 0), (0, 0)))]:
            room, rows = Room(prime, table), all_rows(prime, len(table))
            for still in [[], room.still()]:
                for first in rows:
                    self.judged_by_words(room, ([], [first], still))
                    for second in rows:
                        self.judged_by_words(room, ([(first, second)], [], still))
                        self.judged_by_words(room, ([], [first, second], still))

    def test_tuples_of_more_or_fewer_rows(self):
        for prime in PRIMES:
            cross = tuple(tuple(1 if i // 2 == j // 2 and i != j else 0 for j in range(4)) for i in range(4))
            room, (a, b, c, d) = Room(prime, cross), unit(4)
            self.judged(True, None, is_pair_rows, room, ([(a, b), (c, d)], [], []))
            for pairs in [[(a,), (b, c, d)], [(a, b, c), (d,)], [(a, b, c, d), ()], [(), (a, b, c, d)],
                          [(a, b, c, d)], [(a, b), (c,), (d,)], [(a, b), (c, d), ()], [a, b, c, d]]:
                self.judged(False, pairs, is_pair_rows, room, (pairs, [], []))

    def test_a_rest_of_two_rows(self):
        for prime in PRIMES:
            for first in range(prime):
                for second in range(prime):
                    room = Room(prime, [[first, 0], [0, second]])
                    wanted = reckon.sign(prime, -first * second % prime) == -1
                    self.judged(wanted, (first, second), is_pair_rows, room, ([], list(unit(2)), []))

    def test_a_rest_of_more_rows(self):
        for prime in PRIMES:
            for size in range(3, 7):
                for last in (1, prime - 1, 2):
                    table = [list(row) for row in unit(size)]
                    table[-1][-1] = last
                    self.judged(False, table, is_pair_rows, Room(prime, table), ([], list(unit(size)), []))

    def test_still_rows_as_told_steps_alone(self):
        for prime in PRIMES:
            room = Room(prime, [[0] * 3] * 3)
            self.judged(True, None, is_pair_rows, room, ([], [], list(unit(3))))
            for still in [unit(3)[::-1], ((1, 1, 0), (0, 1, 0), (0, 0, 1)), ((2, 0, 0), (0, 1, 0), (0, 0, 1)), unit(2),
                          [], unit(3)[:2], unit(3) + ((0, 0, 0),)]:
                self.judged(False, still, is_pair_rows, room, ([], [], still))
            self.judged(False, None, is_pair_rows, room, ([], list(unit(3)), []))

    def test_values_of_any_kind(self):
        bad = NO_KIND + [0, 1, (), [], ([], []), ([], [], [], []), [[], [], []], (None, [], []), ([], None, []),
                         ([], [], None), ("", "", ""), ({}, {}, {}), (set(), [], []), (0, 0, 0), ((), (), (), ()),
                         ([None], [], []), ([1], [], []), ([()], [], []), ([((),)], [], []), ([[[], []]], [], []),
                         ([], [0], []), ([], [None], []), ([], [], [0]), ([True], [], []), ("pairs", [], [])]
        for prime in PRIMES:
            for size in SIZES:
                for room in plain_rooms(prime, size)[::3]:
                    for value in bad:
                        self.judged(False, value, is_pair_rows, room, value)
                self.judged(size == 0, size, is_pair_rows, Room(prime, unit(size)), ([], [], []))
                self.judged(size == 0, size, is_pair_rows, Room(prime, [[0] * size] * size), ((), (), ()))
        room = Room(3, unit(1))
        self.assertIs(is_pair_rows(room, ([], [[1]], [])), True)
        for rest in [[[True]], [True], [1], [[4]], [[-1]], [["1"]], ["1"], {0: [1]}, [[1], [1]], [[0]], [[1, 0]]]:
            self.judged(False, rest, is_pair_rows, room, ([], rest, []))


class Sorts(Case):

    def test_all_greatest_nought_parts_of_small_rooms(self):
        cross = tuple(tuple(1 if i + j == 3 else 0 for j in range(4)) for i in range(4))
        for prime, table in [(3, ((0, 1), (1, 0))), (5, unit(2)), (7, ((0, 1), (1, 0))), (3, ((1, 1), (1, 0))),
                             (3, cross), (3, unit(4)), (3, ((0, 1, 0), (1, 0, 0), (0, 0, 0))),
                             (5, ((1, 0, 0), (0, 1, 0), (0, 0, 0))), (13, ((3, 2), (2, 1)))]:
            self.assertEqual(pair_total(Room(prime, table)) * 2, reckon.room_kind(prime, table)[1])
            room, found = Room(prime, table), listed_greatest(prime, table)
            stands = [spanned(prime, len(table), part) for part in found]
            sorts = []
            for part, first in zip(found, stands):
                alike = []
                for other, second in zip(found, stands):
                    less = len(part) - listing.logarithm(prime, len(first & second))
                    self.judged(less % 2 == 0, other, same_sort, room, part, other)
                    alike.append(less % 2 == 0)
                if alike not in sorts:
                    sorts.append(alike)
            # There are two sorts, and each part is of just one.
            self.assertEqual(len(sorts), 2)
            self.assertEqual([not one for one in sorts[0]], sorts[1])

    def test_keepers_lead_sorts_to_sorts(self):
        for prime in PRIMES:
            for size, many in [(2, 1), (4, 2), (5, 2), (6, 3), (3, 1)]:
                table = [[0] * size for _ in range(size)]
                for at in range(many):
                    table[at][many + at] = table[many + at][at] = 1 + at % 2
                room = Room(prime, table).led(Numbers(size).undone(prime, size))
                parts = []
                for seed in range(4):
                    keeper = mixed_keeper(prime, room.rows(), seed)
                    parts.append(part_of(room, led(prime, greatest_nought(room, []), keeper)))
                keeper = mixed_keeper(prime, room.rows(), 11)
                on = [part_of(room, led(prime, part, keeper)) for part in parts]
                for i in range(4):
                    self.assertIs(is_greatest(room, parts[i]), True)
                    self.assertIs(same_sort(room, parts[i], parts[i]), True)
                    for j in range(4):
                        got = self.told(same_sort, room=room, part=parts[i], other=parts[j])
                        self.assertIs(got, same_sort(room, tuples(parts[j]), tuples(parts[i])))
                        self.assertIs(same_sort(room, on[i], on[j]), got)

    def test_both_sorts_by_one_row(self):
        for prime in PRIMES:
            for many in (1, 2, 3):
                size = 2 * many
                table = [[1 if i + j == size - 1 else 0 for j in range(size)] for i in range(size)]
                room, part = Room(prime, table), list(unit(size))[:many]
                for turned in range(many + 1):
                    other = part[:many - turned] + [unit(size)[size - 1 - at] for at in range(many - turned, many)]
                    other = part_of(room, other)
                    self.assertIs(is_greatest(room, other), True)
                    self.assertIs(same_sort(room, part, other), turned % 2 == 0)

    def test_no_sorts(self):
        for prime in PRIMES:
            for size in SIZES:
                for room in plain_rooms(prime, size):
                    part = greatest_nought(room, [])
                    if room.rank == 0 or room.rank != 2 * pair_count(room):
                        self.raised(NoSorts, same_sort, room, part, part)
                        self.raised(NoSorts, same_sort, other=tuples(part), part=part, room=room)
                    else:
                        self.assertIs(same_sort(room, part, part), True)

    def test_rank_three_meets_in_still_rows_alone(self):
        table = ((1, 0, 0), (0, 1, 0), (0, 0, 1))
        found = listed_greatest(3, table)
        self.assertEqual(len(found), 4)
        for part in found:
            for other in found:
                self.raised(NoSorts, same_sort, Room(3, table), part, other)


class Refused(Case):

    def test_not_greatest_ahead_of_no_sorts(self):
        for prime in PRIMES:
            pair = Room(prime, [[0, 1], [1, 0]])
            for part, other in [([], []), ([(1, 0)], []), ([], [(1, 0)]), ([(1, 0)], [(1, 1)]), ([(1, 1)], [(0, 1)]),
                                ([(1, 0)], [(1, 0), (0, 1)])]:
                self.raised(NotGreatest, same_sort, pair, part, other)
            line, still = Room(prime, [[1]]), Room(prime, [[0]])
            self.raised(NotGreatest, same_sort, line, [[1]], [])
            self.raised(NotGreatest, same_sort, line, [], [[1]])
            self.raised(NoSorts, same_sort, line, [], [])
            self.raised(NotGreatest, same_sort, still, [], [[1]])
            self.raised(NotGreatest, same_sort, still, [[1]], [])
            self.raised(NoSorts, same_sort, still, [[1]], [[1]])
            self.raised(NoSorts, same_sort, Room(prime, []), [], [])

    def test_room(self):
        for value in no_rooms(3):
            for function in (pair_count, pair_rows):
                self.refused(InvalidRoom, value, function, value)
                self.refused(InvalidRoom, value, function, room=value)
            self.refused(InvalidRoom, value, is_pair_rows, value, ([], [], []))
            self.refused(InvalidRoom, value, is_pair_rows, value=None, room=value)
            for one in [[], None]:
                self.refused(InvalidRoom, value, same_sort, value, one, one)
                self.refused(InvalidRoom, value, same_sort, other=one, part=None, room=value)

    def test_parts(self):
        for prime in (3, 13):
            for size in SIZES:
                # The errors of state stand behind: the empty part is not greatest in most of these rooms.
                for room in [Room(prime, unit(size)), Room(prime, [[0] * size] * size)]:
                    for value in no_parts(prime, size):
                        self.refused(InvalidPart, value, same_sort, room, value, None)
                        self.refused(InvalidPart, value, same_sort, room, [], value)
                        self.refused(InvalidPart, value, same_sort, other=value, part=unit(size), room=room)


if __name__ == "__main__":
    unittest.main()
