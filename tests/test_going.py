"""Keepers that continue maps, and keepers that lead parts to parts."""

import unittest

from restkeepers.errors import InvalidImages, InvalidPart, InvalidRoom
from restkeepers.going import continues, keeper_on, leads_part, part_lead
from restkeepers.kinds import kinds, part_by, part_kind
from restkeepers.maps import bar, goes_on
from restkeepers.parts import part_of
from restkeepers.rooms import Room
from tests import listing, reckon
from tests.cases import Case
from tests.listing import no_images, no_parts, some_part, tuples
from tests.mapping import led, mixed_keeper, other_images
from tests.reckon import PRIMES, Numbers, all_rows, no_rooms, no_tables, room_samples, symmetric_tables, unit

SIZES = range(7)
PAIR_AND_STILL = ((0, 1, 0), (1, 0, 0), (0, 0, 0))
SMALL = [(3, unit(2)), (3, ((0, 1), (1, 0))), (3, ((1, 0), (0, 0))), (3, ((1, 1), (1, 1))), (3, ((0, 0), (0, 0))),
         (3, unit(3)), (3, PAIR_AND_STILL), (3, ((1, 0, 0), (0, 1, 0), (0, 0, 0))), (3, ((1, 1, 1),) * 3),
         (3, ((2, 1, 0), (1, 1, 0), (0, 0, 1))), (5, unit(2)), (5, ((0, 1), (1, 0))), (5, ((0, 0), (0, 2))),
         (5, ((1, 2), (2, 4))), (7, unit(2)), (7, ((0, 1), (1, 0))), (11, ((2,),)), (13, ((0,),)), (13, ())]


class KeeperCase(Case):

    def keeps(self, room, table):
        """The told value is a keeper, by the words of the document."""
        self.assertTrue(isinstance(table, tuple) and reckon.plain_kind(table), table)
        self.assertEqual([len(row) for row in table], [room.size] * room.size)
        self.assertTrue(all(0 <= rest < room.prime for row in table for rest in row))
        self.assertNotEqual(reckon.determinant(room.prime, table), 0)
        self.same(listing.among(room.prime, room.rows(), table), room.rows())

    def going(self, room, part, images, told=True):
        """The told keeper continues the map; it is told exactly if no bar is there."""
        ask = self.told if told else (lambda function, **named: function(**named))
        table = ask(keeper_on, room=room, part=part, images=images)
        self.assertIs(table is None, bar(room, part, images) is not None)
        if table is not None:
            self.keeps(room, table)
            self.same(led(room.prime, part, table), [tuple(row) for row in images])
            self.assertIs(ask(continues, room=room, part=part, images=images, value=table), True)
        return table

    def leading(self, room, part, other, told=True):
        """The told keeper leads the part to the other one; it is told exactly if the kinds agree."""
        ask = self.told if told else (lambda function, **named: function(**named))
        table = ask(part_lead, room=room, part=part, other=other)
        self.assertIs(table is None, part_kind(room, part) != part_kind(room, other))
        if table is not None:
            self.keeps(room, table)
            images = led(room.prime, part, table)
            self.same(part_of(room, images), [tuple(row) for row in other])
            self.assertIs(ask(leads_part, room=room, part=part, other=other, value=table), True)
        return table


class SmallRooms(KeeperCase):

    def test_maps_against_all_keepers(self):
        for prime, table in SMALL:
            room, size, found = Room(prime, table), len(table), listing.keepers(prime, table)
            for part in listing.parts(prime, size):
                reached = {}
                for keeper in found:
                    reached.setdefault(tuple(led(prime, part, keeper)), []).append(keeper)
                every = list(reckon.product(all_rows(prime, size), repeat=len(part)))
                for images in every[::1 + len(every) // 40] + sorted(reached)[::1 + len(reached) // 40]:
                    got = self.going(room, part, list(images), told=False)
                    self.assertIs(got is None, tuple(images) not in reached)
                    if got is not None:
                        self.assertIn(got, reached[tuple(images)])
                    for keeper in found[::1 + len(found) // 9]:
                        wanted = keeper in reached.get(tuple(images), [])
                        self.judged(wanted, keeper, continues, room, part, images, keeper)

    def test_all_tables_of_a_room(self):
        for prime, table in [(3, unit(2)), (3, ((1, 0), (0, 0))), (3, ((0, 1), (1, 0)))]:
            room, found = Room(prime, table), listing.keepers(prime, table)
            for a, b, c, d in all_rows(prime, 4):
                value = ((a, b), (c, d))
                for part, images in [([], []), ([(1, 0)], [(1, 0)]), ([(1, 1)], [(2, 2)]), ([(0, 1)], [(1, 0)]),
                                     ([(1, 2)], [(1, 1)])]:
                    wanted = value in found and led(prime, part, value) == images
                    self.judged(wanted, value, continues, room, part, images, [list(row) for row in value])
                for part, other in [([], []), ([(1, 0)], [(1, 0)]), ([(1, 1)], [(1, 2)]), ([(1, 0)], [(0, 1)]),
                                    ([(1, 0), (0, 1)], [(1, 0), (0, 1)]), ([], [(1, 0)])]:
                    wanted = value in found and listing.told_part(prime, 2, led(prime, part, value)) == other
                    self.judged(wanted, value, leads_part, room, part, other, [list(row) for row in value])

    def test_parts_against_all_keepers(self):
        for prime, table in SMALL:
            room, size, found = Room(prime, table), len(table), listing.keepers(prime, table)
            parts = listing.parts(prime, size)
            for part in parts[::1 + len(parts) // 12]:
                reached = {}
                for keeper in found:
                    told = tuple(listing.told_part(prime, size, led(prime, part, keeper)))
                    reached.setdefault(told, []).append(keeper)
                for other in parts:
                    got = self.leading(room, part, other, told=False)
                    self.assertIs(got is None, tuple(other) not in reached)
                    if got is not None:
                        self.assertIn(got, reached[tuple(other)])
                    for keeper in found[::1 + len(found) // 5]:
                        wanted = keeper in reached.get(tuple(other), [])
                        self.judged(wanted, keeper, leads_part, room, part, other, keeper)

    def test_all_rooms_of_size_two(self):
        for table in symmetric_tables(3, 2):
            room, found = Room(3, table), listing.keepers(3, table)
            for part in listing.parts(3, 2):
                for keeper in found:
                    self.going(room, part, led(3, part, keeper), told=False)
                for other in listing.parts(3, 2):
                    self.leading(room, part, other, told=False)


class AllSizes(KeeperCase):

    def rooms(self):
        return [(seed, Room(prime, table)) for prime in PRIMES for size in SIZES
                for seed, table in enumerate(room_samples(prime, size))]

    def test_images_by_keepers(self):
        for seed, room in self.rooms()[::2]:
            keeper = mixed_keeper(room.prime, room.rows(), seed)
            for many in {0, 1, room.size // 2, room.size - 1, room.size} - {-1}:
                if many <= room.size:
                    part = some_part(Numbers(seed), room.prime, room.size, many)
                    table = self.going(room, part, led(room.prime, part, keeper), told=seed == 1)
                    self.assertIsNotNone(table)

    def test_parts_of_each_kind(self):
        for seed, room in self.rooms()[::3]:
            keeper, told = mixed_keeper(room.prime, room.rows(), seed), kinds(room)
            for kind in told[::1 + len(told) // 6]:
                part = part_by(room, kind)
                self.assertIsNotNone(self.going(room, part, led(room.prime, part, keeper), told=False))

    def test_parts_of_still_rows(self):
        for prime in PRIMES:
            for size in SIZES:
                for rank in range(size):
                    room = Room(prime, Numbers(rank).low_symmetric(prime, size, rank))
                    still = room.still()
                    part = part_of(room, still[:1] + still[2:])
                    images = [tuple((2 * a + b) % prime for a, b in zip(row, last))
                              for row, last in zip(part, part[1:] + [(0,) * size])]
                    self.assertIsNotNone(self.going(room, part, images, told=False))
                    self.assertIsNotNone(self.going(room, still, still[::-1], told=False))
                    if room.rank:
                        row = next(row for row in unit(size) if not listing.is_still(prime, room.rows(), row))
                        self.assertIsNone(self.going(room, part[:1], [row], told=False))

    def test_still_in_the_own_room_alone(self):
        # The part sees nothing of itself, and no row of it is still in the room.
        for prime in PRIMES:
            for many, more in [(1, 0), (1, 2), (2, 0), (2, 1), (2, 2), (3, 0)]:
                size = 2 * many + more
                table = [[0] * size for _ in range(size)]
                for at in range(many):
                    table[at][at + many] = table[at + many][at] = 1
                room, part = Room(prime, table), list(unit(size))[:many]
                keeper = mixed_keeper(prime, table, many)
                self.assertIsNotNone(self.going(room, part, led(prime, part, keeper), told=False))
                self.assertIsNotNone(self.going(room, part, list(unit(size))[many:2 * many], told=False))
                self.assertIsNotNone(self.leading(room, part, list(unit(size))[many:2 * many], told=False))
                images = [tuple((a + b) % prime for a, b in zip(row, unit(size)[-1])) for row in part]
                self.going(room, part, images, told=False)

    def test_one_thing_otherwise(self):
        for seed, room in self.rooms()[::4]:
            keeper = mixed_keeper(room.prime, room.rows(), seed)
            for many in {min(1, room.size), min(2, room.size), min(4, room.size)}:
                part = some_part(Numbers(seed + 2), room.prime, room.size, many)
                for images in other_images(room.prime, room.rows(), led(room.prime, part, keeper), seed)[::2]:
                    table = self.going(room, part, images, told=False)
                    self.assertIs(goes_on(room, part, images), table is not None)

    def test_the_empty_part_and_the_whole_room(self):
        for seed, room in self.rooms()[::5]:
            self.assertIsNotNone(self.going(room, (), []))
            self.assertIsNotNone(self.leading(room, [], ()))
            keeper, whole = mixed_keeper(room.prime, room.rows(), seed), unit(room.size)
            self.same(self.going(room, whole, keeper), tuples(keeper))
            self.assertIsNotNone(self.leading(room, list(whole), list(whole)))
            if room.size:
                self.assertIsNone(part_lead(room, [], whole))
                self.assertIsNone(part_lead(room, whole, []))

    def test_a_part_and_the_one_to_which_it_is_led(self):
        for seed, room in self.rooms()[::2]:
            keeper = mixed_keeper(room.prime, room.rows(), seed)
            for many in range(0, room.size + 1, 2):
                part = some_part(Numbers(seed), room.prime, room.size, many)
                other = part_of(room, led(room.prime, part, keeper))
                self.assertIs(leads_part(room, part, other, keeper), True)
                self.assertIsNotNone(self.leading(room, part, other, told=seed == 2))
                self.assertIsNotNone(self.leading(room, tuples(part), part, told=False))

    def test_two_parts_found_apart_from_one_another(self):
        for seed, room in self.rooms()[::5]:
            numbers = Numbers(seed + 7)
            for many in range(1, room.size):
                parts = [some_part(numbers, room.prime, room.size, many) for _ in range(3)]
                for part in parts:
                    self.assertIsNotNone(self.leading(room, part, part_by(room, part_kind(room, part)), told=False))
                    self.leading(room, part, parts[0], told=False)

    def test_unlike_kinds(self):
        for prime in PRIMES:
            room = Room(prime, PAIR_AND_STILL)
            for part, other in [([(1, 0, 0)], [(0, 0, 1)]), ([(1, 0, 0)], [(1, 1, 0)]), ([(1, 0, 0)], []),
                                ([(1, 0, 0), (0, 0, 1)], [(1, 1, 0), (0, 0, 1)]), ([(1, 1, 0)], [(0, 0, 1)])]:
                self.assertIsNone(self.leading(room, part, other))
                self.assertIsNone(self.leading(room, other, part))


class AnyValue(Case):

    def test_no_tables(self):
        for prime in (3, 13):
            for size in SIZES:
                for room in [Room(prime, unit(size)), Room(prime, [[0] * size] * size)]:
                    part = list(unit(size))[:1]
                    for value in no_tables(prime, size):
                        self.judged(False, value, continues, room, part, part, value)
                        self.judged(False, value, continues, room, [], [], value)
                        self.judged(False, value, leads_part, room, part, part, value)
                        self.judged(False, value, leads_part, room, [], [], value)

    def test_forms(self):
        for prime in PRIMES:
            for size in SIZES:
                room, part = Room(prime, unit(size)), list(unit(size))[:2]
                for value in [unit(size), [list(row) for row in unit(size)], list(unit(size))]:
                    self.judged(True, value, continues, room, part, tuples(part), value)
                    self.judged(True, value, leads_part, room, tuples(part), part, value)
                for wrong in (True, prime + 1, "1"):
                    value = [[wrong if rest else 0 for rest in row] for row in unit(size)]
                    self.judged(size == 0, value, continues, room, part, part, value)
                    self.judged(size == 0, value, leads_part, room, part, part, value)

    def test_tables_that_are_no_keepers(self):
        for prime in PRIMES:
            flat, room = Room(prime, [[1, 0], [0, 0]]), Room(prime, unit(2))
            for value in [[[1, 0], [0, 0]], [[1, 1], [0, 0]]]:
                # All betweens are kept, but the table is not undone.
                self.judged(False, value, continues, flat, [(1, 0)], [tuple(value[0])], value)
                self.judged(False, value, leads_part, flat, [(1, 0)], [tuple(value[0])], value)
            value = [[1, 0], [0, 2]]
            self.judged(prime == 3, value, continues, room, [(1, 0)], [(1, 0)], value)
            self.judged(prime == 3, value, leads_part, room, [(1, 0)], [(1, 0)], value)

    def test_keepers_that_lead_elsewhere(self):
        for prime in PRIMES:
            room, swap = Room(prime, unit(2)), ((0, 1), (1, 0))
            less = ((prime - 1, 0), (0, 1))
            self.judged(True, swap, continues, room, [(1, 0)], [(0, 1)], swap)
            self.judged(False, swap, continues, room, [(1, 0)], [(1, 0)], swap)
            self.judged(False, less, continues, room, [(1, 0)], [(1, 0)], less)
            self.judged(True, less, leads_part, room, [(1, 0)], [(1, 0)], less)
            self.judged(True, swap, leads_part, room, [(1, 0)], [(0, 1)], swap)
            self.judged(False, swap, leads_part, room, [(1, 0)], [(1, 0)], swap)
            self.judged(False, swap, leads_part, room, [(1, 0)], [(1, 0), (0, 1)], swap)


class Refused(Case):

    def test_room(self):
        for value in no_rooms(3):
            for one in [[], None]:
                for function in (keeper_on, part_lead):
                    self.refused(InvalidRoom, value, function, value, one, None)
                for function in (continues, leads_part):
                    self.refused(InvalidRoom, value, function, value, one, None, None)
                self.refused(InvalidRoom, value, keeper_on, images=one, part=None, room=value)
                self.refused(InvalidRoom, value, continues, value=one, images=one, part=None, room=value)
                self.refused(InvalidRoom, value, part_lead, other=one, part=None, room=value)
                self.refused(InvalidRoom, value, leads_part, value=one, other=one, part=None, room=value)

    def test_parts(self):
        for prime in (3, 13):
            for size in SIZES:
                room = Room(prime, unit(size))
                for value in no_parts(prime, size):
                    self.refused(InvalidPart, value, keeper_on, room, value, None)
                    self.refused(InvalidPart, value, continues, images=value, part=value, value=None, room=room)
                    self.refused(InvalidPart, value, part_lead, room, value, None)
                    self.refused(InvalidPart, value, part_lead, other=value, part=[], room=room)
                    self.refused(InvalidPart, value, leads_part, room, value, None, unit(size))
                    self.refused(InvalidPart, value, leads_part, value=None, other=value, part=[], room=room)

    def test_images(self):
        for prime in (3, 13):
            for size in SIZES:
                for many in range(size + 1):
                    room, part = Room(prime, unit(size)), list(unit(size))[:many]
                    for value in no_images(prime, size, many):
                        self.refused(InvalidImages, value, keeper_on, room, part, value)
                        self.refused(InvalidImages, value, keeper_on, images=value, part=part, room=room)
                        self.refused(InvalidImages, value, continues, room, part, value, None)
                        self.refused(InvalidImages, value, continues, value=unit(size), images=value, part=part, room=room)


if __name__ == "__main__":
    unittest.main()
